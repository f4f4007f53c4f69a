"""Stage 10: loops, points 66 to 72."""

import copy
import itertools
import time
import unittest

import oracle
from missclock.clerks import behind, misses
from missclock.errors import NoDrawers, NoRow, NoStanding, NoSteady, TooMany
from missclock.far import depth_at_last
from missclock.loops import (all_depths, all_steady, are_steady, greatest_steady, is_steady, steady_from,
                             steady_standing)

MOST = 10 ** 30

# What is no list of places, nor of depths, whatever it is asked of.
NOTHING_LIKE_IT = (None, 3, True, False, "", "a", {}, (), (0,), {"a": 1}, {0}, object(), 1.5, b"a", -10 ** 5000,
                   [None], [True], [False], ["0"], [0.0], [[0]], [(0,)], [-1], [10 ** 5000], [-10 ** 5000])


def all_loops(most, letters="abc"):
    return [asks for asks in oracle.all_rows(most, letters) if asks]


def steady_by_words(asks, drawers, places):
    """Point 66 word by word."""
    listed = set(places)
    return all((len([x for x in oracle.round_about(asks, at) if x in listed]) >= drawers) == (at in listed)
               for at in range(len(asks)))


def all_by_words(asks, drawers):
    return sorted((one for one in oracle.all_lists(len(asks)) if steady_by_words(asks, drawers, one)), key=len)


def steady_depths_by_words(asks, depths):
    """Point 71 word by word."""
    return all(depth == oracle.depth_by_words([depths[x] for x in oracle.round_about(asks, at)], 0, len(asks))
               for at, depth in enumerate(depths))


def rounds_from(asks, drawers, standing, many):
    """The places missed in each of so many rounds, and the standings ahead of them."""
    told, starts = [], []
    for _ in range(many):
        starts.append(standing)
        hits, _, standing = oracle.in_ages(asks, drawers, {}, standing)
        told.append([at for at, hit in enumerate(hits) if not hit])
    return told, starts


def drawn(seed, many, longest=12):
    chance = oracle.chance_of(seed)
    for _ in range(many):
        letters = "abcdefghijkl"[:chance.randint(1, 12)]
        yield chance, oracle.some_asks(chance, chance.randint(1, longest), letters), chance.randint(1, 6)


class TestSteady(unittest.TestCase):
    def test_all_small_loops(self):
        for asks in all_loops(5, "abcd"):
            for drawers in (1, 2, 3, 4):
                due = all_by_words(asks, drawers)
                self.assertEqual(all_steady(asks, drawers), due, (asks, drawers))
                self.assertEqual(greatest_steady(asks, drawers), due[-1])
                if len(asks) < 5:
                    told = [one for one in oracle.all_lists(len(asks)) if is_steady(asks, drawers, one)]
                    self.assertEqual(sorted(told, key=len), due)

    def test_drawn(self):
        for _, asks, drawers in drawn(660, 60, 10):
            self.assertEqual(all_steady(asks, drawers), all_by_words(asks, drawers))
            self.assertEqual(all_steady(asks, MOST), [[]])

    def test_one_lies_within_the_other(self):
        for asks, drawers in [(asks, drawers) for _, asks, drawers in drawn(661, 400)] + [(list("dabcadig"), 3)]:
            told = all_steady(asks, drawers)
            self.assertEqual(told[0], [])
            self.assertEqual(told[-1], greatest_steady(asks, drawers))
            for one, other in zip(told, told[1:]):
                self.assertLess(set(one), set(other))
            for one in told:
                self.assertIs(is_steady(asks, drawers, one), True)
                for at in range(len(asks)):
                    self.assertIs(is_steady(asks, drawers, sorted(set(one) ^ {at})), False)

    def test_by_hand(self):
        self.assertEqual(all_steady(["a"], 1), [[]])
        self.assertEqual(all_steady(["a", "b"], 1), [[], [0, 1]])
        self.assertEqual(all_steady(["a", "b"], 2), [[]])
        self.assertEqual(all_steady(list("abc"), 2), [[], [0, 1, 2]])
        self.assertEqual(greatest_steady(list("aab"), 1), [0, 2])
        self.assertEqual(all_steady(list("dabcadig"), 3), [[], [2, 3, 6, 7], [1, 2, 3, 5, 6, 7]])
        # Where the thing is asked once a round its window is all of it but this ask.
        self.assertIs(is_steady(["a", "b", "c"], 2, [0, 1, 2]), True)
        self.assertIs(is_steady(["a", "b", "c"], 3, [0, 1, 2]), False)
        self.assertIs(is_steady(["a"], 1, [0]), False)
        self.assertIs(is_steady([(["a", "b"], 2)], 1, [0, 1, 2, 3]), True)

    def test_of_anything(self):
        for thing in NOTHING_LIKE_IT + ([0, 0], [1, 0], [2], [0, 1, 2], [0, True]):
            self.assertIs(is_steady(["a", "b"], 1, thing), False, thing)
            self.assertRaises(NoSteady, steady_standing, ["a", "b"], 1, thing)
        self.assertIs(is_steady(["a", "b"], 1, [0, 1]), True)
        self.assertIs(is_steady(["a", "b"], 1, []), True)

    def test_four_hundred_asks(self):
        names = oracle.some_names(60)
        chance = oracle.chance_of(662)
        cases = [[names[7 * at % 60] for at in range(400)], oracle.some_asks(chance, 400, names),
                 [names[at % 60] for at in range(400)], ["a", "b"] * 200, ["a"] * 400]
        began = time.process_time()
        for asks in cases:
            for drawers in (1, 2, 13, 29, 45, 59, 60, MOST):
                told = greatest_steady(asks, drawers)
                self.assertIs(is_steady(asks, drawers, told), True)
                start = steady_standing(asks, drawers, told)
                self.assertEqual(misses(asks, drawers, standing=start), len(told))
                self.assertEqual(behind(asks, drawers, standing=start), start)
                self.assertEqual(steady_from(asks, drawers, standing=start), (0, told))
            depths = [depth_at_last(asks, at) for at in range(400)]
            self.assertIs(are_steady(asks, depths), True)
            self.assertIs(are_steady(asks, depths[:-1] + [depths[-1] + 1]), False)
            self.assertIs(are_steady(asks, [0] * 400), True)
        self.assertLess(time.process_time() - began, 30)


class TestStanding(unittest.TestCase):
    def test_each_is_missed_in_every_round(self):
        cases = [(asks, drawers) for asks in all_loops(5) for drawers in (1, 2, 3)]
        for asks, drawers in cases + [(asks, drawers) for _, asks, drawers in drawn(670, 150)]:
            for places in all_steady(asks, drawers):
                start = steady_standing(asks, drawers, places)
                told, starts = rounds_from(asks, drawers, start, 3)
                self.assertEqual(told, [places] * 3)
                self.assertEqual(starts, [start] * 3)

    def test_by_hand(self):
        self.assertEqual(steady_standing(list("abac"), 2, []), [("c", 0), ("a", 0), ("b", 0)])
        self.assertEqual(steady_standing(list("abc"), 2, [0, 1, 2]), [("c", 0), ("b", 1)])
        self.assertEqual(steady_standing(list("aab"), 1, [0, 2]), [("b", 0)])
        self.assertEqual(steady_standing(["a"], MOST, []), [("a", 0)])
        self.assertRaises(NoSteady, steady_standing, list("abc"), 2, [0, 1])


class TestFrom(unittest.TestCase):
    def check(self, asks, drawers, standing):
        told, _ = rounds_from(asks, drawers, standing, 20)
        self.assertEqual(told[-1], told[-2])
        least = min(turn for turn in range(20) if all(one == told[-1] for one in told[turn:]))
        due = (least, told[-1])
        self.assertEqual(steady_from(asks, drawers, standing=standing), due)
        self.assertIs(is_steady(asks, drawers, told[-1]), True)
        return due

    def test_all_small_loops(self):
        seen = set()
        for asks in all_loops(5):
            for drawers in (1, 2):
                for standing in ([], [("z", 0)], [("b", 0), ("a", 0)], [("c", 0), ("z", drawers - 1), ("a", drawers - 1)]):
                    seen.add(self.check(asks, drawers, standing)[0])
        self.assertLess({0, 1}, seen)

    def test_drawn(self):
        for chance, asks, drawers in drawn(700, 300, 25):
            standing = oracle.some_standing(chance, drawers, {}, "abcdefghijklmnop")
            _, places = self.check(asks, drawers, standing)
            # From a younger one what is missed lies within that.
            younger = [(thing, max(0, age - 1)) for thing, age in standing]
            self.assertLessEqual(set(steady_from(asks, drawers, standing=younger)[1]), set(places))
            self.assertLessEqual(set(places), set(greatest_steady(asks, drawers)))

    def test_from_nothing_it_is_the_greatest(self):
        for _, asks, drawers in drawn(701, 100, 30):
            told = steady_from(asks, drawers)
            self.assertEqual(told[1], greatest_steady(asks, drawers))
            self.assertEqual(steady_from(asks, drawers, standing=None), told)
            self.assertEqual(steady_from(asks, drawers, standing=[]), told)

    def test_by_hand(self):
        self.assertEqual(steady_from(["a", "b"], 1), (0, [0, 1]))
        self.assertEqual(steady_from(["a", "b"], 2), (1, []))
        self.assertEqual(steady_from(["a", "b"], 1, standing=[("b", 0), ("a", 0)]), (0, []))
        self.assertEqual(steady_from(["a", "b"], MOST, standing=[("z", 5), ("a", MOST - 1)]), (1, []))
        self.assertRaises(NoStanding, steady_from, ["a"], 2, standing=[("a", 2)])
        self.assertRaises(NoStanding, steady_from, ["a"], 2, standing=())


class TestDepths(unittest.TestCase):
    def test_all_small_loops(self):
        for asks in all_loops(4):
            things = len(set(asks))
            lists = itertools.product(range(things + 1), repeat=len(asks))
            due = [list(one) for one in lists if steady_depths_by_words(asks, one)]
            self.assertEqual(all_depths(asks), due)
            for one in itertools.product(range(3), repeat=len(asks)):
                self.assertIs(are_steady(asks, list(one)), list(one) in due)

    def test_drawn(self):
        most = 0
        for chance, asks, _ in drawn(710, 200, 8):
            told = all_depths(asks)
            most = max(most, len(told))
            self.assertEqual(told, sorted(told))
            for depths in told:
                self.assertIs(are_steady(asks, depths), True)
                self.assertTrue(steady_depths_by_words(asks, depths))
                at = chance.randrange(len(asks))
                for other in (depths[at] + 1, depths[at] - 1, 0, 7):
                    if other != depths[at]:
                        self.assertIs(are_steady(asks, depths[:at] + [other] + depths[at + 1:]), False)
                for drawers in range(1, 9):
                    places = [x for x, depth in enumerate(depths) if depth >= drawers]
                    self.assertIs(is_steady(asks, drawers, places), True)
            greatest = [depth_at_last(asks, at) for at in range(len(asks))]
            self.assertEqual([max(column) for column in zip(*told)], greatest)
        self.assertGreater(most, 5)

    def test_just_those_whose_steady_lists_lie_within_one_another(self):
        for asks in all_loops(5, "abcd")[::3]:
            due = []
            for lists in itertools.product(*[all_steady(asks, drawers) for drawers in (1, 2, 3)]):
                if all(set(other) <= set(one) for one, other in zip(lists, lists[1:])):
                    due.append([len([one for one in lists if at in one]) for at in range(len(asks))])
            self.assertEqual(all_depths(asks), sorted(due))

    def test_greater_and_lesser_ones(self):
        for _, asks, _ in drawn(720, 150, 8):
            told = all_depths(asks)
            for one, other in itertools.combinations(told, 2):
                self.assertIn([max(pair) for pair in zip(one, other)], told)
                self.assertIn([min(pair) for pair in zip(one, other)], told)

    def test_unlike_things(self):
        for many in range(1, 9):
            self.assertEqual(all_depths(list("abcdefgh")[:many]), [[depth] * many for depth in range(many)])
            for drawers in (1, 2, many, MOST):
                due = [[], list(range(many))] if drawers < many else [[]]
                self.assertEqual(all_steady(list("abcdefgh")[:many], drawers), due)

    def test_said_twice_and_turned_about(self):
        for chance, asks, drawers in drawn(721, 100, 6):
            many = len(asks)
            twice = [one + [many + at for at in one] for one in all_steady(asks, drawers)]
            self.assertEqual(all_steady([(asks, 2)], drawers), twice)
            if many <= 4:
                self.assertEqual(all_depths(asks + asks), [one + one for one in all_depths(asks)])
            turn = chance.randrange(many)
            turned = [sorted((at - turn) % many for at in one) for one in all_steady(asks, drawers)]
            self.assertEqual(all_steady(asks[turn:] + asks[:turn], drawers), turned)
            about = sorted(one[turn:] + one[:turn] for one in all_depths(asks))
            self.assertEqual(all_depths(asks[turn:] + asks[:turn]), about)

    def test_of_anything(self):
        for thing in NOTHING_LIKE_IT + ([0], [0, 0, 0], [0, False], [0, None], [0, "0"], [-1, -1], [0, 10 ** 5000]):
            self.assertIs(are_steady(["a", "b"], thing), False, thing)
        for thing in ([0, 0], [1, 1]):
            self.assertIs(are_steady(["a", "b"], thing), True)
        self.assertIs(are_steady(["a", "b"], [True, True]), False)
        self.assertIs(are_steady(["a"], [0]), True)
        self.assertIs(are_steady(["a"], [1]), False)
        self.assertIs(are_steady(["a"], [False]), False)


class TestRefused(unittest.TestCase):
    CALLS = ((is_steady, (1, [])), (steady_standing, (1, [])), (greatest_steady, (1,)), (all_steady, (1,)),
             (steady_from, (1,)), (are_steady, ([0],)), (all_depths, ()))

    def many(self, call, *handed):
        with self.assertRaises(TooMany) as caught:
            call(*handed)
        return caught.exception.many

    def test_no_asks_is_no_loop(self):
        for call, rest in self.CALLS:
            for row in ([], (), None, ["A"], "a", [([], 1)]):
                self.assertRaises(NoRow, call, row, *rest)

    def test_rows_that_are_not_near(self):
        for call, rest in self.CALLS:
            wrong = [0 if one == 1 else one for one in rest]
            self.assertEqual(self.many(call, ["a"] * 401, *wrong), 401)
            self.assertEqual(self.many(call, [(["a", "b"], MOST)], *wrong), 2 * MOST)
            if call not in (all_steady, all_depths):
                call(["a"] * 400, *rest)

    def test_drawers_ahead_of_what_the_points_tell(self):
        for drawers in (0, -1, MOST + 1, True, None, "1", 1.0):
            self.assertRaises(NoDrawers, is_steady, ["a"], drawers, None)
            self.assertRaises(NoDrawers, steady_standing, ["a"], drawers, None)
            self.assertRaises(NoDrawers, greatest_steady, ["a"], drawers)
            self.assertRaises(NoDrawers, all_steady, ["a"] * 13, drawers)
            self.assertRaises(NoDrawers, steady_from, ["a"], drawers, standing=3)

    def test_how_many_asks_are_let(self):
        self.assertEqual(self.many(all_steady, list("abcdefghijklm"), 1), 13)
        self.assertEqual(self.many(all_steady, ["a"] * 400, 1), 400)
        self.assertEqual(self.many(all_depths, list("abcdefghi")), 9)
        self.assertEqual(self.many(all_depths, [(["a"], 400)]), 400)
        self.assertEqual(all_steady(list("abcdefghijkl"), MOST), [[]])
        self.assertEqual(all_steady(["a"] * 12, 1), [[]])
        self.assertEqual(all_depths(["a"] * 8), [[0] * 8])


class TestApart(unittest.TestCase):
    def test_told_alike_and_new_each_time(self):
        row = ["a", (["b", "c"], 2), "a"]
        start = [("b", 0), ("a", 1)]
        calls = (lambda: steady_standing(row, 2, []), lambda: greatest_steady(row, 1), lambda: all_steady(row, 1),
                 lambda: steady_from(row, 2, standing=start)[1], lambda: all_depths(row))
        before = copy.deepcopy((row, start))
        for call in calls:
            kept = copy.deepcopy(call())
            told = call()
            self.assertEqual(told, kept)
            for one in told:
                if isinstance(one, list):
                    one.append(99)
            told.append(99)
            self.assertEqual(call(), kept)
            self.assertEqual((row, start), before)


if __name__ == "__main__":
    unittest.main()
