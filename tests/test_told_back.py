"""Stage 12: depths told back, point 86."""

import itertools
import time
import unittest

import oracle
from missclock.depths import depths
from missclock.errors import NoDepths, TooMany
from missclock.told_back import row_with


def rows_by_first_asks(many):
    """All rows of so many asks of things a, b, c .., each new one the next letter, rising."""
    told = [[]]
    for _ in range(many):
        told = [row + [thing] for row in told for thing in "abcdefghij"[:len(set(row)) + 1]]
    return told


class TestToldBack(unittest.TestCase):
    def test_all_lists_of_few_depths(self):
        for many in range(8):
            least = {}
            for row in rows_by_first_asks(many):
                least.setdefault(tuple(depths(row)), row)
            for told, row in least.items():
                self.assertEqual(row_with(list(told)), row)
            if many < 5:
                for told in itertools.product((None, 0, 1, 2, 3, 4), repeat=many):
                    self.assertEqual(row_with(list(told)), least.get(told))

    def test_drawn(self):
        chance = oracle.chance_of(860)
        began = time.process_time()
        for _ in range(300):
            asks = oracle.some_asks(chance, chance.randint(0, 10), "abcdefghij"[:chance.randint(1, 10)])
            told = depths(asks)
            row = row_with(told)
            self.assertEqual(depths(row), told)
            named = {thing: "abcdefghij"[at] for at, thing in enumerate(dict.fromkeys(asks))}
            self.assertLessEqual(row, [named[thing] for thing in asks])
            self.assertEqual("".join(dict.fromkeys(row)), "abcdefghij"[:len(set(row))])
        self.assertLess(time.process_time() - began, 10)

    def test_by_hand(self):
        self.assertEqual(row_with([]), [])
        self.assertEqual(row_with([None]), ["a"])
        self.assertEqual(row_with([None, None, None, None, 1, 2]), list("abcdcb"))
        self.assertEqual(row_with([None] * 10), list("abcdefghij"))
        self.assertEqual(row_with([None, 0, 0, 0, 0, 0, 0, 0, 0, 0]), ["a"] * 10)
        for none in ([0], [1], [None, 1], [None, None, 2], [None, 10 ** 29], [None, 100], [None, 10], [0] * 10,
                     [None] * 9 + [9]):
            self.assertIsNone(row_with(none), none)

    def test_of_like_depths_the_thing_of_the_least_letter(self):
        # Behind a b c b a both b and c would have the depth 1.
        self.assertEqual(depths(list("abcbab")), depths(list("abcbac")))
        self.assertEqual(row_with(depths(list("abcbac"))), list("abcbab"))

    def test_no_depths_ahead_of_too_many(self):
        wrong = (None, 3, True, "", "0", (), (0,), {}, {0}, [True], [False], [-1], ["0"], [0.0], [[0]], [None, -1],
                 [None] * 11 + [True], [None] * 400 + [-1], [10 ** 5000, "a"], [-10 ** 5000])
        for told in wrong:
            self.assertRaises(NoDepths, row_with, told)
        for many in (11, 400):
            with self.assertRaises(TooMany) as caught:
                row_with([None] * many)
            self.assertEqual(caught.exception.many, many)
        self.assertIsNone(row_with([10 ** 5000]))

    def test_apart(self):
        told = [None, None, 1]
        row = row_with(told)
        self.assertEqual(told, [None, None, 1])
        row.append("z")
        self.assertEqual(row_with(told), ["a", "b", "a"])


if __name__ == "__main__":
    unittest.main()
