"""Stage 8: reminders, points 53 and 55 to 58, and by plans in full as in point 54."""

import itertools
import time
import unittest

import oracle
from missclock.errors import NoNumber, NoWish
from missclock.reminders import drawers_for_few, fewest, gaps, kept_walk, lazy, needs, wanted

MOST = 10 ** 30


def walk_kept(asks, drawers, wished, graces):
    """Point 53 word by word, by a table of ages."""
    ages = {}
    hits = []
    for thing in asks:
        hits.append(thing in ages)
        if thing not in ages:
            for other in list(ages):
                ages[other] += 1
                if other not in wished and ages[other] >= drawers + graces.get(other, 0):
                    del ages[other]
        if thing in wished or thing in ages or drawers + graces.get(thing, 0) >= 1:
            ages[thing] = 0
    return hits


def plan_holds(asks, drawers, wished, graces, plan):
    """Point 54 word by word, of a list of tuples whose places never fall."""
    more = []
    for place, thing in enumerate(asks):
        more += [(name, True) for at, name in plan if at == place]
        more.append((thing, False))
    hits, _, _ = oracle.in_ages([thing for thing, _ in more], drawers, graces, [])
    ahead = set()
    for (thing, reminder), hit in zip(more, hits):
        if reminder and (thing not in wished or thing not in ahead or not hit):
            return False
        if thing in wished and thing in ahead and not hit:
            return False
        if not reminder:
            ahead.add(thing)
    return True


def own_hits(asks, drawers, graces, plan):
    """Whether each of the row's own asks is a hit, in the walk with the plan."""
    more = []
    for place, thing in enumerate(asks):
        more += [(name, True) for at, name in plan if at == place] + [(thing, False)]
    hits, _, _ = oracle.in_ages([thing for thing, _ in more], drawers, graces, [])
    return [hit for hit, (_, reminder) in zip(hits, more) if not reminder]


def all_plans(asks, wished, many):
    spots = [(place, thing) for place in range(len(asks)) for thing in wished]
    return itertools.combinations_with_replacement(spots, many)


def windows_of(asks, hits, thing):
    """The places of the misses between each two asks of a thing next to one another."""
    places = [at for at, one in enumerate(asks) if one == thing]
    return [[x for x in range(at + 1, to) if not hits[x]] for at, to in zip(places, places[1:])]


def some_cases(seed, many=150, letters="abcdefg", longest=25):
    chance = oracle.chance_of(seed)
    for _ in range(many):
        some = letters[:chance.randint(1, len(letters))]
        asks = oracle.some_asks(chance, chance.randint(0, longest), some)
        things = sorted(set(asks))
        wished = chance.sample(things, chance.randint(0, len(things)))
        yield asks, chance.randint(1, 4), wished, oracle.some_graces(chance, some)


def small_cases():
    for asks in oracle.all_rows(5):
        things = sorted(set(asks))
        for wished in ([], things[:1], things[:2][::-1]):
            yield asks, 2, wished, {}
            yield asks, 1, wished, {"a": 1}
            yield asks, 2, wished, {"a": -1, "b": -2}


class TestKept(unittest.TestCase):
    def test_kept_walk_and_gaps(self):
        for asks, drawers, wished, graces in list(small_cases()) + list(some_cases(530)):
            hits = kept_walk(asks, drawers, wished, graces=graces)
            self.assertEqual(hits, walk_kept(asks, drawers, wished, graces))
            due = {thing: [len(one) for one in windows_of(asks, hits, thing)] for thing in wished}
            told = gaps(asks, drawers, wished, graces=graces)
            self.assertEqual(list(told.items()), list(due.items()))

    def test_by_hand(self):
        row = list("abcab")
        self.assertEqual(kept_walk(row, 1, ["a"]), [False, False, False, True, False])
        self.assertEqual(gaps(row, 1, ["b", "a"]), {"b": [1], "a": [2]})
        self.assertEqual(list(gaps(row, 1, ["b", "a"])), ["b", "a"])
        self.assertEqual(gaps(row, 1, ["c"]), {"c": []})
        self.assertEqual(kept_walk(row, 1, ["a"], graces={"a": -MOST}), [False, False, False, True, False])
        self.assertEqual((kept_walk([], 1, []), gaps([], 1, [])), ([], {}))


class TestNeeds(unittest.TestCase):
    def test_by_the_words_of_point_55(self):
        for asks, drawers, wished, graces in list(small_cases()) + list(some_cases(550)):
            told = gaps(asks, drawers, wished, graces=graces)
            due = {}
            for thing in wished:
                limit = drawers + graces.get(thing, 0)
                barred = told[thing] and (limit < 1 or limit == 1 and max(told[thing]) > 0)
                due[thing] = None if barred else 0
                for many in told[thing]:
                    if not barred and many > 0:
                        due[thing] += (many - 1) // (limit - 1)
            self.assertEqual(list(needs(asks, drawers, wished, graces=graces).items()), list(due.items()))
            total = None if None in due.values() else sum(due.values())
            self.assertEqual(fewest(asks, drawers, wished, graces=graces), total)

    def test_against_all_plans(self):
        for asks, drawers, wished, graces in list(some_cases(551, 120, "abc", 6)) + list(small_cases())[::13]:
            told = fewest(asks, drawers, wished, graces=graces)
            for many in range(3 if told is None else min(told, 3)):
                for plan in all_plans(asks, wished, many):
                    self.assertFalse(plan_holds(asks, drawers, wished, graces, plan))
            if told is not None:
                plan = lazy(asks, drawers, wished, graces=graces)
                self.assertTrue(plan_holds(asks, drawers, wished, graces, plan))

    def test_by_hand(self):
        row = list("abcda")
        self.assertEqual(needs(row, 2, ["a"]), {"a": 2})
        self.assertEqual(needs(row, 3, ["a"]), {"a": 1})
        self.assertEqual(needs(row, 4, ["a"]), {"a": 0})
        self.assertEqual(needs(row, MOST, ["a"]), {"a": 0})
        self.assertEqual(needs(row, 1, ["a", "b"]), {"a": None, "b": 0})
        self.assertIsNone(fewest(row, 1, ["a", "b"]))
        # A gap of 0 needs none, and with a limit of 1 that is enough, below 1 it is not.
        self.assertEqual(needs(["a", "a"], 1, ["a"]), {"a": 0})
        self.assertEqual(needs(["a", "a"], 1, ["a"], graces={"a": -1}), {"a": None})
        self.assertEqual(needs(["a"], 1, ["a"], graces={"a": -MOST}), {"a": 0})
        self.assertEqual(fewest([], 1, []), 0)
        self.assertEqual(fewest(row, 1, []), 0)
        self.assertEqual(needs([], 1, []), {})


class TestLazy(unittest.TestCase):
    def test_lazy(self):
        for asks, drawers, wished, graces in list(small_cases()) + list(some_cases(560)):
            plan = lazy(asks, drawers, wished, graces=graces)
            many = fewest(asks, drawers, wished, graces=graces)
            if many is None:
                self.assertIsNone(plan)
                continue
            self.assertEqual(len(plan), many)
            self.assertEqual(plan, sorted(plan))
            self.assertTrue(plan_holds(asks, drawers, wished, graces, plan))
            kept = kept_walk(asks, drawers, wished, graces=graces)
            self.assertEqual(own_hits(asks, drawers, graces, plan), kept)
            for number, (place, thing) in enumerate(plan):
                # Lazy: without it the thing is put away by the miss of this very ask.
                less = plan[:number] + plan[number + 1:]
                self.assertFalse(plan_holds(asks, drawers, wished, graces, less))
                self.assertFalse(kept[place])
                if place + 1 < len(asks):
                    late = sorted(less + [(place + 1, thing)])
                    self.assertFalse(plan_holds(asks, drawers, wished, graces, late))

    def test_by_hand(self):
        row = list("abcda")
        self.assertEqual(lazy(row, 2, ["a"]), [(2, "a"), (3, "a")])
        self.assertEqual(lazy(row, 3, ["a"]), [(3, "a")])
        self.assertEqual(lazy(row, 4, ["a"]), [])
        self.assertIsNone(lazy(row, 1, ["a"]))
        self.assertEqual(lazy(list("bacdab"), 2, ["b", "a"]), [(2, "b"), (3, "a"), (3, "b")])
        self.assertEqual(lazy([], 1, []), [])
        self.assertEqual(lazy(["a", "a"], 1, ["a"]), [])


class TestWanted(unittest.TestCase):
    def check_paper(self, asks, drawers, wished, graces, paper):
        """Point 57 word by word."""
        hits = walk_kept(asks, drawers, wished, graces)
        latest = {}
        for thing, places in paper:
            limit = drawers + graces.get(thing, 0)
            self.assertIn(thing, wished)
            self.assertGreaterEqual(limit, 2)
            self.assertEqual(len(places), limit)
            self.assertEqual(places, sorted(set(places)))
            self.assertTrue(any(set(places) <= set(one) for one in windows_of(asks, hits, thing)))
            self.assertGreaterEqual(places[0], latest.get(thing, 0))
            latest[thing] = places[-1]

    def test_wanted(self):
        for asks, drawers, wished, graces in list(small_cases()) + list(some_cases(570)):
            paper = wanted(asks, drawers, wished, graces=graces)
            many = fewest(asks, drawers, wished, graces=graces)
            if many is None:
                self.assertIsNone(paper)
            else:
                self.assertIs(type(paper), list)
                self.assertEqual(len(paper), many)
                self.check_paper(asks, drawers, wished, graces, paper)

    def test_by_hand(self):
        row = list("abcda")
        self.assertEqual(wanted(row, 2, ["a"]), [("a", [1, 2]), ("a", [2, 3])])
        self.assertEqual(wanted(row, 3, ["a"]), [("a", [1, 2, 3])])
        self.assertEqual(wanted(row, 4, ["a"]), [])
        self.assertIsNone(wanted(row, 1, ["a"]))
        self.assertEqual(wanted([], 1, []), [])


class TestDrawersForFew(unittest.TestCase):
    def test_drawn(self):
        for asks, _, wished, graces in list(small_cases())[::5] + list(some_cases(580, 60)):
            told = [fewest(asks, drawers, wished, graces=graces) for drawers in range(1, len(asks) + 6)]
            # Point 58: with a drawer more no more, and whom a plan helped one helps still.
            known = [many for many in told if many is not None]
            self.assertEqual(told, [None] * (len(told) - len(known)) + sorted(known, reverse=True))
            for most in range(4):
                due = [p for p, many in enumerate(told, start=1) if many is not None and many <= most]
                self.assertEqual(drawers_for_few(asks, wished, most, graces=graces), due[0])

    def test_each_number_of_drawers_of_far_graces(self):
        """Beside the told number of drawers, one less is not enough."""
        chance = oracle.chance_of(581)
        for asks, _, wished, _ in some_cases(582, 100):
            far = (-10 ** 29, 5 - 10 ** 29, -10 ** 6, -7, 0, 3, 10 ** 29)
            graces = {thing: chance.choice(far) + chance.randint(-2, 2) for thing in "abcdefg"}
            for most in (0, 1, 2, 5):
                told = drawers_for_few(asks, wished, most, graces=graces)
                self.assertLessEqual(fewest(asks, told, wished, graces=graces), most)
                if told > 1:
                    less = fewest(asks, told - 1, wished, graces=graces)
                    self.assertTrue(less is None or less > most)

    def test_by_hand(self):
        row = list("abcda")
        self.assertEqual([drawers_for_few(row, ["a"], most) for most in (0, 1, 2, 3, MOST)], [4, 3, 2, 2, 2])
        self.assertEqual(drawers_for_few(row, ["a"], 0, graces={"a": -MOST}), MOST + 4)
        self.assertEqual(drawers_for_few(row, ["a"], 1, graces={"a": -MOST}), MOST + 3)
        self.assertEqual(drawers_for_few(["a", "a"], ["a"], 0, graces={"a": -MOST}), MOST + 1)
        self.assertEqual(drawers_for_few(["a"], ["a"], 0, graces={"a": -MOST}), 1)
        self.assertEqual(drawers_for_few(row, [], 0, graces={thing: -MOST for thing in row}), 1)
        self.assertEqual(drawers_for_few([], [], 0), 1)
        self.assertEqual(drawers_for_few(row, ["a"], 0, graces={"a": MOST - 1}), 1)

    def test_no_number(self):
        for most in (-1, None, True, False, 1.0, "1", [1], -10 ** 5000):
            self.assertRaises(NoNumber, drawers_for_few, ["a"], [], most)
            self.assertRaises(NoNumber, drawers_for_few, ["a"] * 401, ["a"], most, graces=3)
            self.assertRaises(NoWish, drawers_for_few, ["a"] * 401, ["b"], most, graces=3)


class TestWrong(unittest.TestCase):
    def test_no_wish(self):
        for wished in (None, (), ("a",), "a", {}, {"a": 1}, ["c"], ["a", "a"], [None], [["a"]], [True], [""],
                       ["a", "b", "c"], {"a"}):
            for call in (kept_walk, gaps, needs, fewest, lazy, wanted):
                self.assertRaises(NoWish, call, list("abab"), 1, wished)
                self.assertRaises(NoWish, call, [(["a", "b"], MOST)], 1, wished, graces=3)
            self.assertRaises(NoWish, drawers_for_few, list("abab"), wished, 0)

    def test_soon_told(self):
        names = oracle.some_names(60)
        row = [names[7 * at % 60] for at in range(400)]
        graces = {name: -(10 ** 29) - at * 10 ** 20 for at, name in enumerate(names)}
        began = time.process_time()
        for drawers in (2, 30, MOST):
            for kind in (None, graces):
                many = fewest(row, drawers, names, graces=kind)
                plan = lazy(row, drawers, names, graces=kind)
                paper = wanted(row, drawers, names, graces=kind)
                if many is None:
                    self.assertIsNone(plan)
                    self.assertIsNone(paper)
                else:
                    self.assertEqual((len(plan), len(paper)), (many, many))
        # The last of the names is asked at place 17, so that 42 misses lie ahead of its next ask.
        self.assertEqual(row.index(names[59]), 17)
        self.assertEqual(drawers_for_few(row, names, 0, graces=graces), 10 ** 29 + 59 * 10 ** 20 + 43)
        self.assertLess(time.process_time() - began, 10)


if __name__ == "__main__":
    unittest.main()
