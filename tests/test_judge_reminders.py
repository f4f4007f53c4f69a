"""Stage 8: plans and papers judged, points 54 and 57."""

import itertools
import time
import unittest

import oracle
import test_reminders
from missclock.errors import MissError, NoDrawers, NoGraces, NoRow, NoWish, TooMany
from missclock.judge_reminders import holds, shows_wanted
from missclock.reminders import fewest, kept_walk, lazy, wanted

MOST = 10 ** 30

# What is no plan and no paper, whatever it is asked of.
NOTHING_LIKE_IT = (None, 3, True, False, "", "a", {}, (), {"a": 1}, {"a"}, object(), 1.5, b"a", ([],), -10 ** 5000)


def shown_by_words(asks, drawers, wished, graces, paper):
    """Point 57 word by word, of a list of tuples of a text and a list of whole numbers."""
    hits = test_reminders.walk_kept(asks, drawers, wished, graces)
    for thing, places in paper:
        limit = drawers + graces.get(thing, 0)
        if thing not in wished or limit < 2 or len(places) != limit:
            return None
        if any(one >= other for one, other in zip(places, places[1:])):
            return None
        if not any(set(places) <= set(one) for one in test_reminders.windows_of(asks, hits, thing)):
            return None
    for (one, earlier), (other, later) in itertools.combinations(paper, 2):
        if one == other and any(place < earlier[-1] for place in later):
            return None
    return len(paper)


class TestHolds(unittest.TestCase):
    def test_all_small_plans(self):
        """All plans of up to three reminders, of any thing, also with places that fall."""
        cases = list(test_reminders.some_cases(540, 60, "abc", 5)) + list(test_reminders.small_cases())[::17]
        for asks, drawers, wished, graces in cases:
            spots = [(place, thing) for place in range(len(asks)) for thing in sorted(set(asks))]
            for many in range(3):
                for plan in itertools.product(spots, repeat=many):
                    rises = all(one[0] <= other[0] for one, other in zip(plan, plan[1:]))
                    due = rises and test_reminders.plan_holds(asks, drawers, wished, graces, plan)
                    self.assertIs(holds(asks, drawers, wished, list(plan), graces=graces), due,
                                  (asks, drawers, wished, graces, plan))

    def test_lazy_plans_hold_and_none_with_fewer(self):
        told = 0
        for asks, drawers, wished, graces in test_reminders.some_cases(541):
            plan = lazy(asks, drawers, wished, graces=graces)
            if plan is None:
                self.assertIs(holds(asks, drawers, wished, [], graces=graces), False)
                continue
            told += len(plan)
            self.assertIs(holds(asks, drawers, wished, plan, graces=graces), True)
            for at in range(len(plan)):
                self.assertIs(holds(asks, drawers, wished, plan[:at] + plan[at + 1:], graces=graces), False)
        self.assertGreater(told, 20)

    def test_whoever_is_reminded_moves_nobody(self):
        for asks, drawers, wished, graces in test_reminders.some_cases(542):
            plan = lazy(asks, drawers, wished, graces=graces)
            if plan is None:
                continue
            # More reminders than are wanted, of wished things that are asked for again, do no harm.
            late = [(place, thing) for place in range(len(asks)) for thing in wished
                    if thing in asks[:place] and thing in asks[place:]]
            more = sorted(plan + late[::2])
            self.assertIs(holds(asks, drawers, wished, more, graces=graces), True)
            kept = kept_walk(asks, drawers, wished, graces=graces)
            self.assertEqual(test_reminders.own_hits(asks, drawers, graces, more), kept)

    def test_by_hand(self):
        row = list("abcda")
        self.assertIs(holds(row, 2, ["a"], [(2, "a"), (3, "a")]), True)
        self.assertIs(holds(row, 2, ["a"], [(2, "a"), (2, "a"), (3, "a")]), True)
        self.assertIs(holds(row, 2, ["a"], [(3, "a"), (2, "a")]), False)
        self.assertIs(holds(row, 2, ["a"], [(2, "a"), (3, "b")]), False)
        # A reminder of b who lies there is a hit, of b who is gone it is none.
        self.assertIs(holds(row, 2, ["a", "b"], [(2, "a"), (3, "a"), (3, "b")]), True)
        self.assertIs(holds(row, 2, ["a", "b"], [(2, "a"), (3, "a"), (4, "b")]), False)
        # Ahead of its first ask nobody can be reminded of it, not even where it is hit then.
        self.assertIs(holds(row, 9, ["a"], [(0, "a")]), False)
        self.assertIs(holds(row, 9, ["b"], [(1, "b"), (2, "b")]), False)
        self.assertIs(holds(row, 9, ["a"], [(1, "a")]), True)
        # There is no ask at the place behind all.
        self.assertIs(holds(row, 9, ["a"], [(5, "a")]), False)
        self.assertIs(holds(row, 9, ["a"], [(4, "a")]), True)
        self.assertIs(holds([], 1, [], []), True)
        self.assertIs(holds([], 1, [], [(0, "a")]), False)
        self.assertIs(holds(["a"], 1, [], []), True)
        self.assertIs(holds(["a", "b", "a"], 1, [], []), True)

    def test_limits(self):
        for graces, due in (({"a": -1}, False), ({"a": -MOST}, False), ({}, True), ({"a": MOST}, True)):
            self.assertIs(holds(["a", "a"], 1, ["a"], [], graces=graces), due)
            self.assertIs(holds(["a", "a"], 1, ["a"], [(1, "a")], graces=graces), due)
            self.assertIs(holds(["a"], 1, ["a"], [], graces=graces), True)
        # With a limit of 1 nothing helps where there is a miss between, with 2 a reminder does.
        for plan in ([], [(1, "a")], [(2, "a")], [(1, "a"), (2, "a")]):
            self.assertIs(holds(["a", "b", "a"], 1, ["a"], plan), False)
            self.assertIs(holds(["a", "b", "c", "a"], 2, ["a"], plan), (2, "a") in plan)
        self.assertIs(holds(["a", "b", "a"], MOST, ["a", "b"], [(2, "b")]), True)

    def test_of_anything(self):
        row = list("abcda")
        for thing in NOTHING_LIKE_IT + ([None], [()], [(2,)], [(2, "a", 0)], [[2, "a"]], [2, "a"], ((2, "a"), (3, "a")),
                                        [("a", 2)], [(2, ["a"])], [(2, None)], [(2, "")], [(2, "A")], [(2, b"a")],
                                        [(2, {})], [(None, "a")], [("2", "a")], [(2.0, "a")], [(-1, "a")],
                                        [(10 ** 5000, "a")], [(-10 ** 5000, "a")], [([2], "a")], [((2,), "a")]):
            self.assertIs(holds(row, 2, ["a"], thing), False, thing)
            self.assertIs(holds(row, 9, ["a"], thing), False, thing)
        # True is no place, though it is equal to one.
        self.assertIs(holds(row, 9, ["a"], [(1, "a")]), True)
        self.assertIs(holds(row, 9, ["a"], [(True, "a")]), False)

    def test_rows_in_agains(self):
        row = [(["a", (["b", "c"], 2)], 2)]
        self.assertIs(holds(row, 3, ["a"], []), True)
        self.assertIs(holds(row, 2, ["a"], []), False)
        self.assertIs(holds(row, 2, ["a"], [(2, "a")]), True)
        self.assertIs(holds(row, 1, ["a"], [(2, "a")]), False)


class TestShowsWanted(unittest.TestCase):
    def test_told_papers(self):
        for asks, drawers, wished, graces in list(test_reminders.small_cases()) + list(test_reminders.some_cases(571)):
            paper = wanted(asks, drawers, wished, graces=graces)
            if paper is None:
                continue
            self.assertEqual(shows_wanted(asks, drawers, wished, paper, graces=graces), len(paper))
            self.assertEqual(shows_wanted(asks, drawers, wished, paper[1:], graces=graces), max(0, len(paper) - 1))
            if paper:
                twice = shows_wanted(asks, drawers, wished, paper[-1:] + paper, graces=graces)
                self.assertIsNone(twice)

    def test_all_small_papers(self):
        seen = set()
        chance = oracle.chance_of(573)
        for _ in range(80):
            asks = oracle.some_asks(chance, chance.randint(4, 8), "abcd")
            wished = sorted(set(asks))[:chance.randint(1, 3)]
            drawers, graces = chance.randint(1, 2), chance.choice(({}, {"a": 1}, {"b": -1}, {"a": 1, "d": -3}))
            many = len(asks)
            stretches = [(thing, list(places)) for thing in sorted(set(asks)) for size in (1, 2, 3)
                         for places in itertools.combinations(range(many), size)]
            for one in stretches:
                due = shown_by_words(asks, drawers, wished, graces, [one])
                self.assertEqual(shows_wanted(asks, drawers, wished, [one], graces=graces), due)
                seen.add(due)
            good = [one for one in stretches if shown_by_words(asks, drawers, wished, graces, [one])]
            for pair in itertools.product(good[:25], repeat=2):
                due = shown_by_words(asks, drawers, wished, graces, list(pair))
                self.assertEqual(shows_wanted(asks, drawers, wished, list(pair), graces=graces), due)
                seen.add(due)
                # No paper shows more than the fewest, where a plan helps.
                least = fewest(asks, drawers, wished, graces=graces)
                if due is not None and least is not None:
                    self.assertLessEqual(due, least)
        self.assertEqual(seen, {None, 1, 2})

    def test_by_hand(self):
        row = list("abcda")
        self.assertEqual(shows_wanted(row, 2, ["a"], [("a", [1, 2]), ("a", [2, 3])]), 2)
        self.assertEqual(shows_wanted(row, 2, ["a"], [("a", [1, 3])]), 1)
        self.assertEqual(shows_wanted(row, 2, ["a"], []), 0)
        self.assertIsNone(shows_wanted(row, 2, ["a"], [("a", [2, 3]), ("a", [1, 2])]))
        self.assertIsNone(shows_wanted(row, 2, ["a"], [("a", [1, 3]), ("a", [2, 3])]))
        self.assertIsNone(shows_wanted(row, 2, ["a"], [("a", [1, 2, 3])]))
        self.assertIsNone(shows_wanted(row, 2, ["a"], [("a", [0, 1])]))
        self.assertIsNone(shows_wanted(row, 2, ["a"], [("a", [2, 1])]))
        self.assertIsNone(shows_wanted(row, 2, ["a"], [("a", [2, 2])]))
        self.assertIsNone(shows_wanted(row, 2, ["a"], [("b", [2, 3])]))
        # A hit of the kept walk is no miss: c lies there when it is asked again.
        self.assertIsNone(shows_wanted(list("abccda"), 2, ["a"], [("a", [2, 3])]))
        self.assertEqual(shows_wanted(list("abccda"), 2, ["a"], [("a", [2, 4])]), 1)
        # All between the same two asks.
        self.assertIsNone(shows_wanted(list("abadea"), 2, ["a"], [("a", [1, 3])]))
        self.assertEqual(shows_wanted(list("abadea"), 2, ["a"], [("a", [3, 4])]), 1)
        # Of unlike things the tuples may stand as they like.
        both = [("a", [2, 3]), ("b", [2, 3])]
        for paper in (both, both[::-1]):
            self.assertEqual(shows_wanted(list("abcdab"), 2, ["b", "a"], paper), 2)
        self.assertEqual(shows_wanted(list("abcdab"), 2, ["b", "a"], [("a", [1, 2]), ("b", [2, 3]), ("a", [2, 3])]), 3)

    def test_limits(self):
        row = list("abcda")
        for grace, paper in ((-1, [("a", [1])]), (-2, [("a", [])]), (-MOST, [("a", [])]), (-3, [("a", [])])):
            self.assertIsNone(shows_wanted(row, 2, ["a"], paper, graces={"a": grace}))
            self.assertEqual(shows_wanted(row, 2, ["a"], [], graces={"a": grace}), 0)
        self.assertEqual(shows_wanted(row, 2, ["a"], [("a", [1, 2, 3])], graces={"a": 1}), 1)
        self.assertEqual(shows_wanted(row, MOST, ["a"], [("a", [1, 2])], graces={"a": 2 - MOST}), 1)
        self.assertIsNone(shows_wanted(row, MOST, ["a"], [("a", [1, 2, 3])]))
        # Where no plan holds, what a paper shows to be wanted is wanted still.
        self.assertIsNone(wanted(list("abcdab"), 2, ["a", "b"], graces={"b": -2}))
        self.assertEqual(shows_wanted(list("abcdab"), 2, ["a", "b"], [("a", [1, 2])], graces={"b": -2}), 1)

    def test_of_anything(self):
        row = list("abcda")
        for thing in NOTHING_LIKE_IT + ([None], [()], [("a",)], [("a", [1, 2], 0)], [["a", [1, 2]]], (("a", [1, 2]),),
                                        [("a", (1, 2))], [("a", None)], [("a", "12")], [("a", {1: 1, 2: 2})],
                                        [("a", 1)], [("a", [1, None])], [("a", [1, "2"])], [("a", [1, 2.0])],
                                        [("a", [True, 2])], [("a", [[1], 2])], [("a", [-1, 1])], [("a", [3, 4])],
                                        [("a", [1, 10 ** 5000])], [(None, [1, 2])], [(["a"], [1, 2])], [("", [1, 2])],
                                        [("A", [1, 2])], [(b"a", [1, 2])], [(0, [1, 2])], [("z", [1, 2])],
                                        [("a", [1, 2]), None]):
            self.assertIsNone(shows_wanted(row, 2, ["a"], thing), thing)
        self.assertEqual(shows_wanted([], 1, [], []), 0)
        self.assertIsNone(shows_wanted([], 1, [], [("a", [])]))


class TestBoth(unittest.TestCase):
    def test_rows_that_are_not_near_are_refused_last(self):
        for call in (holds, shows_wanted):
            great = [(["a", "b"], MOST)]
            self.assertRaises(NoRow, call, [great], 0, ["z"], [], graces=3)
            self.assertRaises(NoDrawers, call, great, 0, ["z"], [], graces=3)
            self.assertRaises(NoWish, call, great, 1, ["z"], [], graces=3)
            self.assertRaises(NoGraces, call, great, 1, ["a"], [], graces=3)
            with self.assertRaises(TooMany) as caught:
                call(great, 1, ["a"], None)
            self.assertEqual(caught.exception.many, 2 * MOST)

    def test_whatever_is_handed_in_stays(self):
        plan = [(2, "a"), (3, "a")]
        paper = [("a", [1, 2]), ("a", [2, 3])]
        holds(list("abcda"), 2, ["a"], plan)
        shows_wanted(list("abcda"), 2, ["a"], paper)
        self.assertEqual((plan, paper), ([(2, "a"), (3, "a")], [("a", [1, 2]), ("a", [2, 3])]))

    def test_soon_told(self):
        names = oracle.some_names(60)
        row = [names[7 * at % 60] for at in range(400)]
        began = time.process_time()
        for drawers in (2, 3, 30):
            plan = lazy(row, drawers, names)
            paper = wanted(row, drawers, names)
            self.assertIs(holds(row, drawers, names, plan), True)
            self.assertIs(holds(row, drawers, names, plan[1:]), False)
            self.assertEqual(shows_wanted(row, drawers, names, paper), len(plan))
        many = [(399, names[0])] * 20000
        self.assertIs(holds(row, MOST, names, many), True)
        self.assertLess(time.process_time() - began, 10)

    def test_no_refusal_is_due_to_the_thing_judged(self):
        for call in (holds, shows_wanted):
            for thing in NOTHING_LIKE_IT:
                try:
                    call(list("abcda"), 2, ["a"], thing, graces={"a": -3})
                except MissError:
                    self.fail(thing)


if __name__ == "__main__":
    unittest.main()
