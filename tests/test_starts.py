"""Stage 6: starts, points 41 to 47."""

import itertools
import time
import unittest

import oracle
from missclock.clerks import asked, behind, is_standing, walk
from missclock.errors import NoDrawers, NoGraces, NoStanding, NoThing, TooMany
from missclock.starts import (all_met, comes_to, elder_of, how_many_between, is_younger, met,
                              more_missed, row_to, unlike_asks, younger_of)

MOST = 10 ** 30


def all_starts(things, drawers, graces=None):
    """All starts of these things, each in one of its orders."""
    told = []
    for ages in itertools.product([None] + list(range(drawers + 3)), repeat=len(things)):
        pairs = [(thing, age) for thing, age in zip(things, ages) if age is not None]
        pairs = sorted(pairs, key=lambda pair: pair[1])
        if is_standing(drawers, pairs, graces=graces):
            told.append(pairs)
    return told


def no_older(one, other):
    """Point 41 word by word."""
    first, second = dict(one), dict(other)
    return all(thing in first and first[thing] <= second[thing] for thing in second)


def some_cases(seed, many=150):
    chance = oracle.chance_of(seed)
    for _ in range(many):
        letters = "abcdefg"[:chance.randint(1, 7)]
        drawers = chance.randint(1, 5)
        graces = oracle.some_graces(chance, letters)
        one = oracle.some_standing(chance, drawers, graces, letters)
        other = oracle.some_standing(chance, drawers, graces, letters)
        asks = oracle.some_asks(chance, chance.randint(0, 20), letters + "z")
        yield asks, drawers, one, other, graces


class TestYounger(unittest.TestCase):
    def test_all_small_starts(self):
        for drawers, graces in ((1, None), (2, None), (2, {"a": -1, "b": 1}), (3, {"b": -3})):
            starts = all_starts("abc", drawers, graces)
            for one in starts:
                for other in starts:
                    due = no_older(one, other)
                    self.assertIs(is_younger(drawers, one, other, graces=graces), due)

    def test_by_hand(self):
        self.assertIs(is_younger(2, [], []), True)
        self.assertIs(is_younger(2, [("a", 1)], []), True)
        self.assertIs(is_younger(2, [], [("a", 1)]), False)
        self.assertIs(is_younger(2, [("a", 0), ("b", 0)], [("b", 0), ("a", 0)]), True)
        self.assertIs(is_younger(2, [("a", 0)], [("b", 1)]), False)
        self.assertIs(is_younger(2, [("b", 1)], [("a", 0)]), False)
        self.assertIs(is_younger(MOST, [("a", MOST - 2)], [("a", MOST - 1)]), True)

    def test_no_starts(self):
        for call in (is_younger, younger_of, elder_of, how_many_between):
            for wrong in (None, (), {}, [("a", 2)], [("a", True)], [["a", 0]], 3):
                self.assertRaises(NoStanding, call, 2, wrong, [])
                self.assertRaises(NoStanding, call, 2, [], wrong)
                self.assertRaises(NoGraces, call, 2, wrong, [], graces=3)
                self.assertRaises(NoDrawers, call, 0, [], wrong, graces=3)
            self.assertRaises(NoStanding, call, 2, [("a", 1)], [], graces={"a": -1})

    def test_younger_and_elder_of_both(self):
        for drawers, graces in ((1, None), (2, {"a": -1, "b": 1}), (3, None)):
            starts = all_starts("ab", drawers, graces) + all_starts("bc", drawers, graces)
            for one in starts:
                for other in starts:
                    first, second = dict(one), dict(other)
                    low = younger_of(drawers, one, other, graces=graces)
                    high = elder_of(drawers, one, other, graces=graces)
                    self.assertEqual(dict(low), {
                        thing: min(first.get(thing, 99), second.get(thing, 99)) for thing in [*first, *second]})
                    self.assertEqual(dict(high), {
                        thing: max(first[thing], second[thing]) for thing in first if thing in second})
                    order = list(first) + [thing for thing in second if thing not in first]
                    for told in (low, high):
                        self.assertIs(is_standing(drawers, told, graces=graces), True)
                        due = sorted(told, key=lambda pair: (pair[1], order.index(pair[0])))
                        self.assertEqual(told, due)

    def test_orders_by_hand(self):
        one = [("b", 0), ("a", 1), ("d", 1)]
        other = [("c", 0), ("e", 0), ("a", 0), ("d", 1), ("f", 1)]
        self.assertEqual(younger_of(2, one, other),
                         [("b", 0), ("a", 0), ("c", 0), ("e", 0), ("d", 1), ("f", 1)])
        self.assertEqual(younger_of(2, other, one),
                         [("c", 0), ("e", 0), ("a", 0), ("b", 0), ("d", 1), ("f", 1)])
        self.assertEqual(elder_of(2, one, other), [("a", 1), ("d", 1)])
        self.assertEqual(elder_of(2, other, one), [("a", 1), ("d", 1)])
        self.assertEqual(elder_of(2, [("a", 0), ("b", 0)], [("b", 0), ("a", 0)]), [("a", 0), ("b", 0)])
        self.assertEqual(younger_of(1, [], []), [])

    def test_runs_stay_younger_and_elder(self):
        for asks, drawers, one, other, graces in some_cases(430):
            low = younger_of(drawers, one, other, graces=graces)
            high = elder_of(drawers, one, other, graces=graces)
            ends = [behind(asks, drawers, graces=graces, standing=start) for start in (low, one, other, high)]
            for run in ends[1:3]:
                self.assertIs(is_younger(drawers, ends[0], run, graces=graces), True)
                self.assertIs(is_younger(drawers, run, ends[3], graces=graces), True)

    def test_how_many_between(self):
        for drawers, graces in ((1, None), (2, {"a": -1, "b": 1}), (2, None)):
            starts = all_starts("abc", drawers, graces)
            for one in starts:
                for other in starts:
                    many = 0
                    if no_older(one, other):
                        many = len([x for x in starts if no_older(one, x) and no_older(x, other)])
                    self.assertEqual(how_many_between(drawers, one, other, graces=graces), many)

    def test_how_many_between_of_any_size(self):
        one = [("a", 0), ("b", 5)]
        graces = {"a": MOST - 1}
        self.assertEqual(how_many_between(MOST, one, [], graces=graces), 2 * MOST * (MOST - 4))
        self.assertEqual(how_many_between(MOST, one, [("b", 6), ("a", MOST)], graces=graces), 2 * (MOST + 1))
        self.assertEqual(how_many_between(MOST, one, [("b", 4)], graces=graces), 0)
        self.assertEqual(how_many_between(3, [], []), 1)
        self.assertEqual(how_many_between(3, [], [("a", 0)]), 0)
        self.assertEqual(how_many_between(3, [("a", 1)], [("a", 1)]), 1)


class TestRuns(unittest.TestCase):
    def check(self, asks, drawers, one, other, graces):
        first = walk(asks, drawers, graces=graces, standing=one)
        second = walk(asks, drawers, graces=graces, standing=other)
        due = []
        for at, (hit, late) in enumerate(zip(first, second)):
            if hit != late:
                due.append((at, 0 if hit else 1))
        self.assertEqual(unlike_asks(asks, drawers, one, other, graces=graces), due)
        alike = []
        for many in range(len(asks) + 1):
            here = behind(asks[:many], drawers, graces=graces, standing=one)
            there = behind(asks[:many], drawers, graces=graces, standing=other)
            alike.append(dict(here) == dict(there))
        told = met(asks, drawers, one, other, graces=graces)
        self.assertEqual(told, alike.index(True) if True in alike else None)
        more = second.count(False) - first.count(False)
        self.assertEqual(more_missed(asks, drawers, one, other, graces=graces), more)
        if no_older(one, other):
            self.assertTrue(all(which == 0 for _, which in due))
            self.assertGreaterEqual(more, 0)

    def test_all_small_rows_and_starts(self):
        for drawers, graces in ((1, None), (2, {"a": -1, "b": 1})):
            starts = all_starts("ab", drawers, graces)
            for asks in oracle.all_rows(3):
                for one in starts:
                    for other in starts:
                        self.check(asks, drawers, one, other, graces)

    def test_drawn(self):
        for case in some_cases(420):
            self.check(*case)

    def test_by_hand(self):
        one, other = [("a", 0)], [("b", 0)]
        self.assertEqual(unlike_asks(list("ab"), 1, one, other), [(0, 0)])
        self.assertEqual(unlike_asks(list("ba"), 1, one, other), [(0, 1)])
        self.assertEqual(unlike_asks([], 1, one, other), [])
        self.assertEqual(met(list("ab"), 1, one, other), 1)
        self.assertIsNone(met([], 1, one, other))
        self.assertEqual(met([], 2, [("a", 0), ("b", 0)], [("b", 0), ("a", 0)]), 0)
        self.assertEqual(met(["a"], 2, [("a", 0)], []), 1)
        self.assertIsNone(met(["a"], MOST, [("b", 7)], [("b", 8)]))
        self.assertEqual(more_missed(list("ab"), 1, one, other), 1)
        self.assertEqual(more_missed(list("ab"), 1, other, one), -1)
        self.assertEqual(more_missed([], 1, other, one), 0)


class TestRowTo(unittest.TestCase):
    def reached(self, things, drawers):
        """All starts that come of asks for these things from nothing."""
        found = {frozenset(): []}
        waiting = [[]]
        for now in waiting:
            for thing in things:
                _, then, _ = asked(drawers, now, thing)
                if frozenset(then) not in found:
                    found[frozenset(then)] = then
                    waiting.append(then)
        return found

    def test_all_small_starts(self):
        for drawers in (1, 2, 3, 4):
            found = self.reached("abcd"[:3 if drawers > 2 else 4], drawers)
            for start in all_starts("abcd"[:3 if drawers > 2 else 4], drawers):
                told = row_to(drawers, start)
                if frozenset(start) in found:
                    self.assertEqual(told[0], "row")
                    self.assertTrue(set(told[1]) <= set(dict(start)))
                    self.assertEqual(behind(told[1], drawers), start)
                    self.assertIs(comes_to(told[1], drawers, start), True)
                else:
                    over = [at for at, (_, age) in enumerate(start) if age > at]
                    self.assertEqual(told, ("old", over[0] if over else 1))
                    self.assertTrue(over or drawers == 1)

    def test_drawn_great_starts(self):
        chance = oracle.chance_of(450)
        names = oracle.some_names(24)
        for _ in range(200):
            drawers = chance.choice((2, 2, 3, 5, 10, 24, 25, MOST))
            ages = [0]
            while len(ages) < 24:
                ages.append(chance.choice((ages[-1], ages[-1], min(len(ages), ages[-1] + chance.randint(1, 5)))))
            start = [(name, min(age, drawers - 1)) for name, age in zip(names, ages)]
            start = start[:chance.randint(0, 24)]
            kind, row = row_to(drawers, start)
            self.assertEqual(kind, "row")
            self.assertLessEqual(len(row), 400)
            self.assertEqual(behind(row, drawers), start)

    def test_by_hand(self):
        self.assertEqual(row_to(3, []), ("row", []))
        self.assertEqual(row_to(1, []), ("row", []))
        self.assertEqual(behind(row_to(1, [("a", 0)])[1], 1), [("a", 0)])
        self.assertEqual(row_to(1, [("a", 0), ("b", 0)]), ("old", 1))
        self.assertEqual(row_to(1, [("a", 0), ("b", 0), ("c", 0)]), ("old", 1))
        self.assertEqual(row_to(2, [("a", 1)]), ("old", 0))
        self.assertEqual(row_to(3, [("a", 0), ("b", 2), ("c", 2)]), ("old", 1))
        self.assertEqual(row_to(MOST, [("a", 0), ("b", 1), ("c", MOST - 1)]), ("old", 2))

    def test_refused(self):
        names = oracle.some_names(30)
        for many in (25, 30):
            for drawers, age in ((1, 0), (2, 1), (MOST, MOST - 1)):
                with self.assertRaises(TooMany) as caught:
                    row_to(drawers, [(name, age) for name in names[:many]])
                self.assertEqual(caught.exception.many, many)
        self.assertEqual(row_to(1, [(name, 0) for name in names[:24]]), ("old", 1))
        self.assertEqual(row_to(2, [(name, 0) for name in names[:24]])[0], "row")
        self.assertRaises(NoStanding, row_to, 1, [(name, 1) for name in names])
        self.assertRaises(NoDrawers, row_to, 0, [(name, 1) for name in names])
        for wrong in (None, (), [("a", 2)], {}, 3):
            self.assertRaises(NoStanding, row_to, 2, wrong)
            self.assertRaises(NoStanding, comes_to, ["a"], 2, wrong)
            self.assertRaises(NoStanding, comes_to, ["a"] * 401, 2, wrong)
        self.assertRaises(TooMany, comes_to, ["a"] * 401, 2, [])

    def test_comes_to(self):
        for asks in oracle.all_rows(4):
            for drawers in (1, 2):
                due = dict(behind(asks, drawers))
                for start in all_starts("abc", drawers):
                    self.assertIs(comes_to(asks, drawers, start), dict(start) == due)
        self.assertIs(comes_to(list("abab"), 2, [("a", 0), ("b", 0)]), True)
        self.assertIs(comes_to([], 2, []), True)


class TestAllMet(unittest.TestCase):
    def test_all_small_rows(self):
        for drawers, graces in ((1, None), (2, None), (2, {"a": -2, "b": 1})):
            for things in ("", "a", "ab", "ba"):
                starts = all_starts(things, drawers, graces)
                for asks in oracle.all_rows(4):
                    alike = []
                    for many in range(len(asks) + 1):
                        ends = [dict(behind(asks[:many], drawers, graces=graces, standing=start))
                                for start in starts]
                        alike.append(all(end == ends[0] for end in ends))
                    due = alike.index(True) if True in alike else None
                    self.assertEqual(all_met(asks, drawers, list(things), graces=graces), due)

    def test_by_hand(self):
        self.assertEqual(all_met([], 2, []), 0)
        self.assertIsNone(all_met([], 2, ["a"]))
        self.assertEqual(all_met([], 2, ["a"], graces={"a": -2}), 0)
        self.assertEqual(all_met(["a"], 2, ["a"]), 1)
        self.assertEqual(all_met(list("xyz"), 2, ["a", "b"]), 2)
        self.assertIsNone(all_met(list("xyz"), MOST, ["a", "b"]))

    def test_no_things(self):
        for things, wrong in ((["a", "A"], "A"), (["a", "b", "a"], "a"), ([None], None), ([["a"]], ["a"]),
                              (["a", 3, "A"], 3), (["b", "b", 3], "b"), ([True], True), ([""], "")):
            with self.assertRaises(NoThing) as caught:
                all_met(["a"], 2, things)
            self.assertEqual(caught.exception.thing, wrong)
            self.assertRaises(NoThing, all_met, ["a"] * 401, 2, things, graces=3)
            self.assertRaises(NoDrawers, all_met, ["a"] * 401, 0, things, graces=3)
        for things in (("a",), None, "a", {}, 3):
            self.assertRaises(NoThing, all_met, ["a"], 2, things)
        self.assertRaises(NoGraces, all_met, ["a"] * 401, 2, ["a"], graces=3)
        self.assertRaises(TooMany, all_met, ["a"] * 401, 2, ["a"])


class TestGreat(unittest.TestCase):
    def test_four_hundred_asks_are_soon_told(self):
        names = oracle.some_names(60)
        row = [names[7 * at % 60] for at in range(400)]
        graces = {name: at * 10 ** 27 for at, name in enumerate(names)}
        one = [(name, at) for at, name in enumerate(names)]
        other = [(name, at + 1) for at, name in enumerate(names)]
        began = time.process_time()
        for drawers in (61, 100, MOST):
            for kind in (None, graces):
                self.assertEqual(unlike_asks(row, drawers, one, other, graces=kind), [])
                self.assertEqual(met(row, drawers, one, other, graces=kind), 60)
                # From nothing the first sixty asks are missed, but the last thing is new by then.
                self.assertEqual(all_met(row, drawers, names, graces=kind), 119)
                self.assertEqual(more_missed(row, drawers, one, other, graces=kind), 0)
                self.assertEqual(how_many_between(drawers, one, other, graces=kind), 2 ** 60)
        self.assertLess(time.process_time() - began, 10)


if __name__ == "__main__":
    unittest.main()
