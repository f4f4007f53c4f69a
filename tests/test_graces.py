"""Stage 5: graces, points 35 to 40."""

import itertools
import time
import unittest

import oracle
from missclock.clerks import misses, walk
from missclock.errors import NoGraces, NoThing, NoWish
from missclock.graces import (by_grace, graces_barred, graces_of, helped, is_kinder, is_least_paper,
                              least_graces, least_paper, like_drawers)

MOST = 10 ** 30


def some_cases(seed, many=150):
    chance = oracle.chance_of(seed)
    for _ in range(many):
        letters = "abcdefg"[:chance.randint(1, 7)]
        asks = oracle.some_asks(chance, chance.randint(1, 25), letters)
        yield chance, asks, chance.randint(1, 5), oracle.some_graces(chance, letters)


def missed_by(asks, drawers, graces):
    """The places of the misses by the plain ages."""
    hits, _, _ = oracle.in_ages(asks, drawers, graces, [])
    return [at for at, hit in enumerate(hits) if not hit]


def asked_twice(asks):
    return sorted({thing for thing in asks if asks.count(thing) > 1})


def kept_by(asks, drawers, graces, wish):
    """Whether each ask of a wished thing but its first is a hit."""
    missed = missed_by(asks, drawers, graces)
    return all(asks.index(asks[at]) == at for at in missed if asks[at] in wish)


def between(asks, missed, place):
    """How many of the missed places lie between an ask and the one of its thing ahead."""
    before = oracle.last_ahead(asks, place)
    return len([at for at in missed if before < at < place])


class TestKinder(unittest.TestCase):
    def test_is_kinder(self):
        chance = oracle.chance_of(350)
        for _ in range(300):
            one = oracle.some_graces(chance, "abcd")
            other = {thing: chance.randint(-1, 3) for thing in "abcd" if chance.random() < 0.6}
            due = all(other.get(thing, 0) >= one.get(thing, 0) for thing in "abcd")
            self.assertIs(is_kinder(one, other), due)
            self.assertIs(is_kinder(one, one), True)

    def test_by_hand(self):
        self.assertIs(is_kinder({}, {}), True)
        self.assertIs(is_kinder(None, None), True)
        self.assertIs(is_kinder(None, {"a": 0}), True)
        self.assertIs(is_kinder(None, {"a": 1}), True)
        self.assertIs(is_kinder(None, {"a": -1}), False)
        self.assertIs(is_kinder({"a": -1}, None), True)
        self.assertIs(is_kinder({"a": 1}, {}), False)
        self.assertIs(is_kinder({"a": 1}, {"b": 5}), False)
        self.assertIs(is_kinder({"a": 10 ** 30 - 1}, {"a": 10 ** 30 - 2}), False)
        for wrong in (0, [], (), "a", {"a": True}, {"A": 1}, {"a": None}):
            self.assertRaises(NoGraces, is_kinder, wrong, None)
            self.assertRaises(NoGraces, is_kinder, {}, wrong)

    def test_helped(self):
        for chance, asks, drawers, graces in some_cases(351):
            other = {thing: graces.get(thing, 0) + chance.randint(0, 2) for thing in "abcdefg"}
            old = missed_by(asks, drawers, graces)
            new = missed_by(asks, drawers, other)
            due = [at for at in old if at not in new]
            self.assertEqual(helped(asks, drawers, graces, other), due)
            self.assertTrue(set(new) <= set(old))
            self.assertEqual(helped(asks, drawers, graces, graces), [])
        self.assertEqual(helped(list("aba"), 1, None, {"a": 1}), [2])
        self.assertEqual(helped(list("aba"), 1, {"a": -1}, None), [])
        self.assertEqual(helped([], 1, None, None), [])
        for one, other in ((None, {"a": -1}), ({"a": 1}, None), ({"z": 1}, {"z": 0})):
            self.assertRaises(NoGraces, helped, ["a"], 1, one, other)


class TestLikeDrawers(unittest.TestCase):
    def check(self, asks, drawers, graces):
        missed = missed_by(asks, drawers, graces)
        like = [p for p in range(1, len(asks) + 2) if missed_by(asks, p, {}) == missed]
        self.assertEqual(like_drawers(asks, drawers, graces), like[0] if like else None)

    def test_all_small_rows(self):
        for asks in oracle.all_rows(6):
            for graces in ({}, {"a": 1}, {"a": -1, "b": 1}):
                self.check(asks, 2, graces)

    def test_drawn_rows(self):
        for _, asks, drawers, graces in some_cases(360):
            self.check(asks, drawers, graces)
            for by in range(1 - drawers, 3):
                told = like_drawers(asks, drawers, {thing: by for thing in asks})
                self.assertEqual(missed_by(asks, told, {}), missed_by(asks, drawers + by, {}))
                self.assertLessEqual(told, drawers + by)

    def test_far(self):
        row = list("abab")
        self.assertEqual(like_drawers(row, MOST, {"a": 2 - MOST, "b": 3 - MOST}), 2)
        self.assertEqual(like_drawers(row, MOST, {"a": 1 - MOST, "b": 1 - MOST}), 1)
        self.assertEqual(like_drawers(row, MOST, None), 2)
        self.assertEqual(like_drawers(["a"], MOST, {"a": -MOST}), 1)
        self.assertIsNone(like_drawers(["a", "a"], 1, {"a": -1}))
        self.assertEqual(like_drawers([], MOST, None), 1)


class TestByGrace(unittest.TestCase):
    def check(self, asks, drawers, thing, graces):
        due = []
        for by in range(-drawers, len(asks) + 2):
            many = len(missed_by(asks, drawers, {**graces, thing: by}))
            if not due or many < due[-1][1]:
                due.append((by, many))
        self.assertEqual(by_grace(asks, drawers, thing, graces=graces), due)

    def test_all_small_rows(self):
        for asks in oracle.all_rows(6):
            for thing in set(asks):
                self.check(asks, 2, thing, {})
                self.check(asks, 1, thing, {"a": 1, "b": -1})

    def test_drawn_rows(self):
        for chance, asks, drawers, graces in some_cases(370):
            self.check(asks, drawers, chance.choice(asks), graces)

    def test_far(self):
        told = by_grace(list("aba"), MOST, "a", graces={"a": 7, "b": -5})
        self.assertEqual(told, [(-MOST, 3), (2 - MOST, 2)])
        self.assertEqual(by_grace(["a"], 3, "a"), [(-3, 1)])
        self.assertEqual(by_grace(["a", "a"], 3, "a"), [(-3, 2), (-2, 1)])

    def test_no_thing_of_the_row(self):
        for thing in ("c", "", "A", None, 3, ["a"], ("a",), True):
            with self.assertRaises(NoThing) as caught:
                by_grace(list("ab"), 2, thing)
            self.assertEqual(caught.exception.thing, thing)
            self.assertRaises(NoThing, by_grace, [], 2, thing)


class TestWish(unittest.TestCase):
    def check(self, asks, drawers, wish, graces):
        told = least_graces(asks, drawers, wish, graces=graces)
        self.assertEqual(list(told), [thing for thing in asked_twice(asks) if thing in wish])
        others = {thing: graces[thing] for thing in graces if thing not in wish}
        self.assertTrue(kept_by(asks, drawers, {**others, **told}, told))
        for thing in told:
            less = {**others, **told, thing: told[thing] - 1}
            self.assertFalse(kept_by(asks, drawers, less, told))
        missed, spots = least_paper(asks, drawers, wish, graces=graces)
        more = {thing: told[thing] + 3 for thing in told}
        self.assertEqual(missed, missed_by(asks, drawers, {**others, **told}))
        self.assertEqual(missed, missed_by(asks, drawers, {**others, **more}))
        due = []
        for thing in told:
            again = [at for at, one in enumerate(asks) if one == thing][1:]
            most = max(between(asks, missed, at) for at in again)
            firsts = [at for at in again if between(asks, missed, at) == most]
            due.append((thing, firsts[0], most))
            self.assertEqual(told[thing], most - drawers + 1)
        self.assertEqual(spots, due)
        return missed, spots

    def test_all_small_rows(self):
        for asks in oracle.all_rows(6):
            things = sorted(set(asks))
            for wish in itertools.chain(itertools.combinations(things, 1), itertools.combinations(things, 2)):
                self.check(asks, 1, list(wish), {"a": 1, "c": -1})

    def test_drawn_rows(self):
        for chance, asks, drawers, graces in some_cases(380):
            things = sorted(set(asks))
            wish = chance.sample(things, chance.randint(0, len(things)))
            paper = self.check(asks, drawers, wish, graces)
            self.assertIs(is_least_paper(asks, drawers, wish, paper, graces=graces), True)

    def test_papers(self):
        for chance, asks, drawers, graces in some_cases(390):
            things = sorted(set(asks))
            wish = chance.sample(things, chance.randint(0, len(things)))
            missed, spots = least_paper(asks, drawers, wish, graces=graces)

            def judged(thing):
                return is_least_paper(asks, drawers, wish, thing, graces=graces)

            for number, (thing, _, many) in enumerate(spots):
                for place in range(len(asks)):
                    right = asks[place] == thing and oracle.last_ahead(asks, place) is not None
                    right = right and between(asks, missed, place) == many
                    other = spots[:number] + [(thing, place, many)] + spots[number + 1:]
                    self.assertIs(judged((missed, other)), right)
                for odd in ((thing, spots[number][1], many + 1), list(spots[number]), spots[number][:2],
                            spots[number] + (1,), None, (thing, True, many), (thing, None, many),
                            (thing, spots[number][1], float(many)), ("z", spots[number][1], many),
                            (None, spots[number][1], many)):
                    other = spots[:number] + [odd] + spots[number + 1:]
                    self.assertIs(judged((missed, other)), False)
                self.assertIs(judged((missed, spots[:number] + spots[number + 1:])), False)
            for odd in (None, [missed, spots], (missed,), (missed, spots, 1), (missed, tuple(spots)),
                        (tuple(missed), spots), (missed[1:], spots), (missed + [len(asks)], spots),
                        (missed, spots + [("a", 0, 0)]), ([float(at) for at in missed], spots), 3, "ab",
                        (None, None), (missed, None), {}, (missed[::-1] + [0], spots)):
                self.assertIs(judged(odd), False)
            if len(spots) > 1:
                self.assertIs(judged((missed, spots[::-1])), False)

    def test_by_hand(self):
        row = list("abcab")
        self.assertEqual(least_graces(row, 1, ["b", "a"]), {"a": 2, "b": 1})
        self.assertEqual(list(least_graces(row, 1, ["b", "a"])), ["a", "b"])
        self.assertEqual(least_graces(row, 1, ["a", "c"]), {"a": 2})
        self.assertEqual(least_graces(row, MOST, ["a"]), {"a": 3 - MOST})
        self.assertEqual(least_graces(row, 1, []), {})
        self.assertEqual(least_graces([], 1, []), {})
        self.assertEqual(least_paper(row, 1, ["b", "a"]), ([0, 1, 2], [("a", 3, 2), ("b", 4, 1)]))
        self.assertEqual(least_paper([], 1, []), ([], []))
        self.assertIs(is_least_paper([], 1, [], ([], [])), True)
        # Of several places the first; by an other place it is a paper, too.
        self.assertEqual(least_paper(list("abaca"), 1, ["a"]), ([0, 1, 3], [("a", 2, 1)]))
        self.assertIs(is_least_paper(list("abaca"), 1, ["a"], ([0, 1, 3], [("a", 4, 1)])), True)
        # A thing's own grace that is handed in is not asked for where it is wished.
        self.assertEqual(least_graces(row, 1, ["a"], graces={"a": -7}), least_graces(row, 1, ["a"]))

    def test_no_wish(self):
        row = list("abab")
        for wish in (None, (), ("a",), "a", {}, {"a": 1}, ["c"], ["a", "a"], [None], [["a"]], [("a",)],
                     ["a", "b", "a"], [True], 3, [""], {"a"}):
            for call in (least_graces, least_paper):
                self.assertRaises(NoWish, call, row, 1, wish)
            self.assertRaises(NoWish, is_least_paper, row, 1, wish, None)


class TestGracesOf(unittest.TestCase):
    def check_all(self, asks, drawers):
        """Every list of places against all graces from never kept to never put away."""
        again = asked_twice(asks)
        span = range(-drawers, len(asks) + 1)
        found = {}
        for graces in itertools.product(span, repeat=len(again)):
            missed = missed_by(asks, drawers, dict(zip(again, graces)))
            found.setdefault(tuple(missed), []).append(graces)
        for places in oracle.all_lists(len(asks)):
            told = graces_of(asks, drawers, places)
            paper = graces_barred(asks, drawers, places)
            if tuple(places) not in found:
                self.assertIsNone(told)
                self.check_paper(asks, places, paper)
                continue
            self.assertIsNone(paper)
            self.assertEqual(list(told), again)
            sides = []
            for least, most in told.values():
                sides.append([by for by in span
                              if (least is None or by >= least) and (most is None or by <= most)])
            self.assertEqual(sorted(itertools.product(*sides)), sorted(found[tuple(places)]))

    def check_paper(self, asks, places, paper):
        """Point 40's paper word by word."""
        firsts = [at for at in range(len(asks)) if oracle.last_ahead(asks, at) is None]
        barred = [at for at in firsts if at not in places]
        if barred:
            self.assertEqual(paper, (asks[barred[0]], barred[0]))
            return
        due = []
        for thing in asked_twice(asks):
            again = [at for at in range(len(asks)) if asks[at] == thing and at not in firsts]
            hits = [(-between(asks, places, at), at) for at in again if at not in places]
            missed = [(between(asks, places, at), at) for at in again if at in places]
            if hits and missed and -min(hits)[0] >= min(missed)[0]:
                due.append((thing, min(hits)[1], min(missed)[1]))
        self.assertEqual(paper, due[0])

    def test_all_small_rows(self):
        for asks in oracle.all_rows(4):
            self.check_all(asks, 2)
        for asks in oracle.all_rows(6, "ab"):
            self.check_all(asks, 1)

    def test_drawn_rows(self):
        chance = oracle.chance_of(400)
        for _ in range(12):
            self.check_all(oracle.some_asks(chance, 7, "abc"), chance.randint(1, 3))

    def test_what_was_missed_is_told(self):
        for chance, asks, drawers, graces in some_cases(401):
            missed = missed_by(asks, drawers, graces)
            told = graces_of(asks, drawers, missed)
            self.assertIsNone(graces_barred(asks, drawers, missed))
            for _ in range(5):
                drawn = {}
                for thing, (least, most) in told.items():
                    low = most - 4 if least is None else least
                    drawn[thing] = chance.randint(low, low + 4 if most is None else most)
                self.assertEqual(missed_by(asks, drawers, drawn), missed)

    def test_by_hand(self):
        row = list("abab")
        self.assertEqual(graces_of(row, 2, [0, 1]), {"a": (0, None), "b": (-1, None)})
        self.assertEqual(graces_of(row, 2, [0, 1, 2]), {"a": (None, -1), "b": (0, None)})
        self.assertEqual(graces_of(row, 1, [0, 1, 2, 3]), {"a": (None, 0), "b": (None, 0)})
        self.assertIsNone(graces_of(row, 2, [0, 2, 3]))
        self.assertEqual(graces_barred(row, 2, [0, 2, 3]), ("b", 1))
        self.assertEqual(graces_barred(row, 2, []), ("a", 0))
        self.assertEqual(graces_of([], 1, []), {})
        self.assertIsNone(graces_barred([], 1, []))
        self.assertEqual(graces_of(list("abc"), 1, [0, 1, 2]), {})
        # Both asks of a have as many of the list since, but one is a hit.
        self.assertIsNone(graces_of(list("abaaa"), 1, [0, 1, 4]))
        self.assertEqual(graces_barred(list("abaaa"), 1, [0, 1, 4]), ("a", 2, 4))
        self.assertEqual(graces_of(row, MOST, [0, 1]), {"a": (2 - MOST, None), "b": (1 - MOST, None)})

    def test_no_places(self):
        for places in (None, (), (0,), "0", [4], [-1], [0, 0], [1, 0], [True], [0.0], [None], {}, 3):
            self.assertRaises(NoWish, graces_of, list("abab"), 1, places)
            self.assertRaises(NoWish, graces_barred, list("abab"), 1, places)


class TestGreat(unittest.TestCase):
    def test_four_hundred_asks_are_soon_told(self):
        names = oracle.some_names(60)
        chance = oracle.chance_of(402)
        rows = ([names[7 * at % 60] for at in range(400)], oracle.some_asks(chance, 400, names),
                oracle.some_asks(chance, 400, names[:5]))
        began = time.process_time()
        for row in rows:
            for drawers in (1, 20, MOST):
                for thing in names[:2]:
                    told = by_grace(row, drawers, thing)
                    self.assertEqual(told[0][0], -drawers)
                    self.assertEqual(told[-1][1], misses(row, drawers, graces={thing: 400}))
                wish = sorted(set(row))[::2]
                paper = least_paper(row, drawers, wish)
                self.assertIs(is_least_paper(row, drawers, wish, paper), True)
                missed = [at for at, hit in enumerate(walk(row, drawers)) if not hit]
                self.assertIsNotNone(graces_of(row, drawers, missed))
                self.assertIsNone(graces_barred(row, drawers, missed))
                self.assertEqual(helped(row, drawers, None, {}), [])
                like_drawers(row, drawers, {names[0]: 3})
        self.assertLess(time.process_time() - began, 20)


if __name__ == "__main__":
    unittest.main()
