"""Stage 4: the shelf and the plain rule, points 28 to 34."""

import time
import unittest

import oracle
from missclock.clerks import behind, walk
from missclock.depths import depths
from missclock.errors import NoDrawers, NoPlace
from missclock.plain import like_places, plain_depths, plain_misses, spared
from missclock.shelf import fits, held, marks, most_held, shelf, sizes, stays

MOST = 10 ** 30


def some_rows(seed, many=200):
    chance = oracle.chance_of(seed)
    told = []
    for _ in range(many):
        letters = "abcdefghij"[:chance.randint(1, 10)]
        told.append(oracle.some_asks(chance, chance.randint(0, 40), letters))
    return told


def small_and_drawn(seed):
    return list(oracle.all_rows(6)) + some_rows(seed)


def stays_by_words(asks, drawers):
    """Point 30 by the drawers themselves."""
    hits, gone, _ = oracle.in_drawers(asks, drawers)
    told = []
    for first, thing in enumerate(asks):
        if not hits[first]:
            ends = [at for at in range(first + 1, len(asks)) if thing in gone[at]]
            told.append((thing, first, ends[0] if ends else None))
    return told


def plain_rule(asks, places):
    """The first half of point 32 word by word: the places of the misses."""
    kept = []
    missed = []
    for at, thing in enumerate(asks):
        if thing in kept:
            kept.remove(thing)
        else:
            missed.append(at)
        kept.append(thing)
        if len(kept) > places:
            kept.pop(0)
    return missed


class TestShelf(unittest.TestCase):
    def test_each_as_if_asked_now(self):
        for asks in small_and_drawn(280):
            told = shelf(asks)
            latest = list(dict.fromkeys(asks[::-1]))
            self.assertEqual(told, [(one, depths(asks + [one])[-1]) for one in latest])
            along = [depth for _, depth in told]
            self.assertEqual(along, sorted(along))
            self.assertEqual(along[:1], [0] * len(along[:1]))
            self.assertTrue(all(depth >= 1 for depth in along[1:]))

    def test_held(self):
        for asks in small_and_drawn(281):
            told = shelf(asks)
            for drawers in (1, 2, 3, 5, MOST):
                due = [thing for thing, _ in behind(asks, drawers)]
                self.assertEqual(held(asks, drawers), due)
                self.assertEqual(due, [thing for thing, _ in told[:len(due)]])

    def test_marks(self):
        for asks in small_and_drawn(282):
            told = marks(asks)
            many = len(set(asks))
            due = []
            while many and (not due or due[-1] < many):
                due.append(len(behind(asks, len(due) + 1)))
            self.assertEqual(told, due)
            self.assertEqual(told, sorted(told))

    def test_by_hand(self):
        row = list("dabcba")
        self.assertEqual(shelf(row), [("a", 0), ("b", 1), ("c", 1), ("d", 3)])
        self.assertEqual(marks(row), [1, 3, 3, 4])
        self.assertEqual(held(row, 2), ["a", "b", "c"])
        self.assertEqual(held(row, 3), ["a", "b", "c"])
        self.assertEqual(held(row, 1), ["a"])
        self.assertEqual(shelf([]), [])
        self.assertEqual(marks([]), [])
        self.assertEqual(held([], 3), [])
        self.assertEqual(marks(["a"]), [1])
        self.assertEqual(shelf([(("a", "b"), 200)]), [("b", 0), ("a", 1)])

    def test_behind_four_hundred_asks(self):
        names = oracle.some_names(60)
        row = [names[7 * at % 60] for at in range(400)]
        self.assertEqual(shelf(row), [(name, at) for at, name in enumerate(row[::-1][:60])])
        self.assertEqual(marks(row), list(range(1, 61)))


class TestHolding(unittest.TestCase):
    def test_sizes(self):
        for asks in small_and_drawn(300):
            for drawers in (1, 2, 3, 5):
                due = [len(behind(asks[:at + 1], drawers)) for at in range(len(asks))]
                self.assertEqual(sizes(asks, drawers), due)
                self.assertEqual(most_held(asks, drawers), max(due, default=0))
                hits = walk(asks, drawers)
                for at in range(1, len(asks)):
                    if hits[at]:
                        self.assertEqual(due[at], due[at - 1])
                    else:
                        self.assertLessEqual(due[at], due[at - 1] + 1)
                    if len(set(asks[:at + 1])) >= drawers:
                        self.assertGreaterEqual(due[at], drawers)

    def test_stays(self):
        for asks in small_and_drawn(301):
            for drawers in (1, 2, 3, 5):
                self.assertEqual(stays(asks, drawers), stays_by_words(asks, drawers))
            firsts = [(one, asks.index(one), None) for one in dict.fromkeys(asks)]
            self.assertEqual(stays(asks, MOST), firsts)

    def test_fits(self):
        for asks in small_and_drawn(310):
            many = len(set(asks))
            peaks = [max(sizes(asks, drawers), default=0) for drawers in range(1, many + 2)]
            for places in range(1, many + 3):
                fit = [drawers for drawers, peak in enumerate(peaks, start=1) if peak <= places]
                due = None if len(fit) == len(peaks) else fit[-1]
                self.assertEqual(fits(asks, places), due)
            self.assertIsNone(fits(asks, MOST))

    def test_by_hand(self):
        row = list("abacab")
        self.assertEqual(sizes(row, 1), [1] * 6)
        self.assertEqual(stays(list("abab"), 1), [("a", 0, 1), ("b", 1, 2), ("a", 2, 3), ("b", 3, None)])
        self.assertEqual(stays(list("abac"), 2), [("a", 0, None), ("b", 1, None), ("c", 3, None)])
        self.assertEqual(sizes(list("abac"), 2), [1, 2, 2, 3])
        self.assertEqual(most_held(list("abac"), 2), 3)
        self.assertEqual(fits(list("abac"), 2), 1)
        self.assertIsNone(fits(list("abac"), 3))
        self.assertEqual(fits(list("ab"), 1), 1)
        self.assertEqual((sizes([], 1), most_held([], 1), stays([], 1)), ([], 0, []))
        self.assertIsNone(fits([], 1))

    def test_wrong_numbers(self):
        for places in (0, -1, None, True, False, 1.0, "1", [1]):
            with self.assertRaises(NoPlace) as caught:
                fits(["a"], places)
            self.assertEqual(caught.exception.place, places)
            self.assertRaises(NoPlace, plain_misses, ["a"], places)
        for drawers in (0, MOST + 1, None, True):
            for call in (held, sizes, most_held, stays, spared, like_places):
                self.assertRaises(NoDrawers, call, ["a"], drawers)
                self.assertRaises(NoDrawers, call, [], drawers)


class TestPlain(unittest.TestCase):
    def test_plain_depths(self):
        for asks in small_and_drawn(320):
            due = []
            for at in range(len(asks)):
                before = oracle.last_ahead(asks, at)
                due.append(None if before is None else len(set(asks[before + 1:at])))
            self.assertEqual(plain_depths(asks), due)
            # Point 33: no depth is greater than the plain one.
            for depth, plain in zip(depths(asks), due):
                self.assertIs(depth is None, plain is None)
                self.assertTrue(depth is None or depth <= plain)

    def test_plain_misses(self):
        for asks in small_and_drawn(321):
            for places in (1, 2, 3, 5, MOST):
                self.assertEqual(plain_misses(asks, places), plain_rule(asks, places))

    def test_spared(self):
        for asks in small_and_drawn(330):
            for drawers in (1, 2, 3, 5):
                missed = plain_rule(asks, drawers)
                hits = walk(asks, drawers)
                self.assertEqual(spared(asks, drawers), [at for at in missed if hits[at]])
                self.assertTrue(all(hits[at] for at in range(len(asks)) if at not in missed))

    def test_like_places(self):
        for asks in small_and_drawn(340):
            for drawers in (1, 2, 3, 5, MOST):
                hits = walk(asks, drawers)
                places = 0
                while any(hits[at] for at in plain_rule(asks, places)):
                    places += 1
                self.assertEqual(like_places(asks, drawers), places)
                # Point 34: as many places as the clerk ever holds things are enough.
                self.assertLessEqual(places, most_held(asks, drawers))

    def test_by_hand(self):
        row = list("dabcba")
        self.assertEqual(plain_depths(row), [None, None, None, None, 1, 2])
        self.assertEqual(plain_misses(row, 1), [0, 1, 2, 3, 4, 5])
        self.assertEqual(plain_misses(row, 2), [0, 1, 2, 3, 5])
        self.assertEqual(spared(row, 2), [])
        self.assertEqual(spared(list("abcbcba"), 2), [])
        self.assertEqual(spared(list("abacaba"), 2), [5])
        self.assertEqual(like_places(row, 2), 2)
        self.assertEqual(like_places(row, 1), 0)
        self.assertEqual(like_places([], 1), 0)
        self.assertEqual(like_places(["a", "a"], 1), 1)
        self.assertEqual((plain_depths([]), plain_misses([], 1), spared([], 1)), ([], [], []))

    def test_four_hundred_asks_are_soon_told(self):
        names = oracle.some_names(60)
        chance = oracle.chance_of(341)
        row = oracle.some_asks(chance, 400, names)
        began = time.process_time()
        for drawers in (1, 20, MOST):
            for call in (held, sizes, stays, spared, like_places, fits, plain_misses):
                call(row, drawers)
        self.assertEqual(most_held(row, MOST), 60)
        self.assertIsNone(fits(row, 60))
        self.assertLess(time.process_time() - began, 10)


if __name__ == "__main__":
    unittest.main()
