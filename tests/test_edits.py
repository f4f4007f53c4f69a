"""Stage 7: one ask more, points 48 to 52."""

import time
import unittest

import oracle
from missclock.clerks import misses
from missclock.edits import best_put_in, exchanged, left_out, put_away, put_in
from missclock.errors import NoDrawers, NoGraces, NoPlace, NoThing, TooMany

MOST = 10 ** 30


def reckon(asks, graces, away=None, thing=None):
    """Point 20 word by word; a thing put away ahead of a place is first again there."""
    told = []
    for at, one in enumerate(asks):
        before = oracle.last_ahead(asks, at)
        if before is not None and one == thing and before < away <= at:
            before = None
        if before is None:
            told.append(None)
        else:
            told.append(oracle.depth_by_words(told[before + 1:at], graces.get(one, 0)))
    return told


def changed(told, other):
    return [(at, one, new) for at, (one, new) in enumerate(zip(told, other)) if one != new]


def small_cases():
    for asks in oracle.all_rows(5):
        yield asks, {}
        yield asks, {"a": -1, "b": 1}


def some_cases(seed, many=40):
    chance = oracle.chance_of(seed)
    for _ in range(many):
        letters = "abcdef"[:chance.randint(1, 6)]
        yield oracle.some_asks(chance, chance.randint(0, 15), letters), oracle.some_graces(chance, letters)


class TestChanges(unittest.TestCase):
    def check_steps(self, changes, own, falls):
        """Point 49: by 1 at most, none to or from endless, but of the next ask of the thing."""
        for at, depth, other in changes:
            if at != own:
                self.assertEqual(abs(depth - other), 1)
            elif falls:
                self.assertTrue(depth is None or other < depth)
            else:
                self.assertTrue(other is None or other > depth)

    def check_put_in(self, asks, graces, things):
        told = reckon(asks, graces)
        for place in range(len(asks) + 1):
            for thing in things:
                more = reckon(asks[:place] + [thing] + asks[place:], graces)
                own, changes = put_in(asks, place, thing, graces=graces)
                self.assertEqual(own, more[place])
                self.assertEqual(changes, changed(told, more[:place] + more[place + 1:]))
                later = [at for at in range(place, len(asks)) if asks[at] == thing]
                self.check_steps(changes, later[0] if later else None, True)

    def test_put_in(self):
        for asks, graces in small_cases():
            self.check_put_in(asks, graces, "az")
        for asks, graces in some_cases(480):
            self.check_put_in(asks, graces, "abz")

    def check_left_out(self, asks, graces):
        told = reckon(asks, graces)
        for place in range(len(asks)):
            less = reckon(asks[:place] + asks[place + 1:], graces)
            changes = left_out(asks, place, graces=graces)
            due = [(at, told[at], less[at if at < place else at - 1]) for at in range(len(asks)) if at != place]
            self.assertEqual(changes, [one for one in due if one[1] != one[2]])
            later = [at for at in range(place + 1, len(asks)) if asks[at] == asks[place]]
            self.check_steps(changes, later[0] if later else None, False)

    def test_left_out(self):
        for asks, graces in list(small_cases()) + list(some_cases(481)):
            self.check_left_out(asks, graces)

    def test_exchanged(self):
        for asks, graces in list(small_cases()) + list(some_cases(500)):
            told = reckon(asks, graces)
            for place in range(len(asks) - 1):
                one, other = asks[place:place + 2]
                turned = asks[:place] + [other, one] + asks[place + 2:]
                new = reckon(turned, graces)
                new[place], new[place + 1] = new[place + 1], new[place]
                changes = exchanged(asks, place, graces=graces)
                self.assertEqual(changes, [] if one == other else changed(told, new))
                self.assertTrue(all(abs(depth - new) == 1 for _, depth, new in changes))

    def test_put_away(self):
        for asks, graces in list(small_cases()) + list(some_cases(510)):
            told = reckon(asks, graces)
            for place in range(len(asks) + 1):
                for thing in "abz":
                    changes = put_away(asks, place, thing, graces=graces)
                    self.assertEqual(changes, changed(told, reckon(asks, graces, place, thing)))
                    if thing not in asks[:place] or thing not in asks[place:]:
                        self.assertEqual(changes, [])
                        continue
                    own = asks.index(thing, place)
                    self.assertIn((own, told[own], None), changes)
                    self.assertTrue(all(new == depth + 1 for at, depth, new in changes if at != own))

    def test_by_hand(self):
        row = list("abab")
        self.assertEqual(put_in(row, 0, "b"), (None, [(1, None, 1)]))
        self.assertEqual(put_in(row, 2, "a"), (1, [(2, 1, 0)]))
        self.assertEqual(put_in(row, 4, "c"), (None, []))
        self.assertEqual(put_in(row, 3, "c"), (None, []))
        self.assertEqual(put_in(row, 2, "c"), (None, [(2, 1, 2), (3, 1, 2)]))
        self.assertEqual(put_in([], 0, "a"), (None, []))
        self.assertEqual(left_out(row, 0), [(2, 1, None)])
        self.assertEqual(left_out(row, 1), [(2, 1, 0), (3, 1, None)])
        self.assertEqual(left_out(["a"], 0), [])
        self.assertEqual(exchanged(row, 1), [(2, 1, 0), (3, 1, 0)])
        self.assertEqual(exchanged(list("aab"), 0), [])
        self.assertEqual(put_away(row, 2, "a"), [(2, 1, None)])
        self.assertEqual(put_away(row, 4, "a"), [])
        self.assertEqual(put_away(row, 1, "b"), [])
        self.assertEqual(put_away([], 0, "a"), [])

    def test_graces_of_thirty_figures(self):
        far = 10 ** 29
        graces = {"a": -far}
        self.assertEqual(put_in(list("aba"), 1, "c", graces=graces), (None, [(2, far + 1, far + 2)]))
        self.assertEqual(put_in(list("ab"), 2, "a", graces=graces), (far + 1, []))
        self.assertEqual(put_away(list("aba"), 1, "a", graces=graces), [(2, far + 1, None)])
        self.assertEqual(put_away(list("abaa"), 1, "a", graces=graces), [(2, far + 1, None)])
        self.assertEqual(left_out(list("aba"), 1, graces=graces), [(2, far + 1, far)])

    def test_refused(self):
        row = list("abab")
        for place in (-1, 5, None, True, False, 1.0, "1", [1], MOST):
            for call in (put_in, put_away):
                with self.assertRaises(NoPlace) as caught:
                    call(row, place, "A", graces=3)
                self.assertEqual(caught.exception.place, place)
        for thing in ("A", "", None, 3, ["a"], "abcdefghi"):
            for call in (put_in, put_away):
                with self.assertRaises(NoThing) as caught:
                    call(row, 4, thing, graces=3)
                self.assertEqual(caught.exception.thing, thing)
        for place in (-1, 4, None, True, 1.0):
            self.assertRaises(NoPlace, left_out, row, place, graces=3)
            self.assertRaises(NoPlace, exchanged, row, place, graces=3)
        for row, place in ((row, 3), (["a"], 0), ([], 0), ([], -1)):
            with self.assertRaises(NoPlace) as caught:
                exchanged(row, place)
            self.assertEqual(caught.exception.place, place)
        self.assertRaises(NoPlace, left_out, [], 0)
        for call, handed in ((put_in, (4, "a")), (put_away, (4, "a")), (left_out, (3,)), (exchanged, (2,))):
            self.assertRaises(NoGraces, call, list("abab"), *handed, graces=3)


class TestBest(unittest.TestCase):
    def best(self, asks, drawers, graces):
        tried = []
        for place in range(len(asks) + 1):
            for thing in set(asks):
                more = asks[:place] + [thing] + asks[place:]
                hits, _, _ = oracle.in_ages(more, drawers, graces, [])
                tried.append((hits.count(False), place, thing))
        return min(tried, default=None)

    def test_all_small_rows(self):
        for asks in oracle.all_rows(6):
            for drawers, graces in ((1, {}), (2, {"a": 1, "b": -2})):
                told = best_put_in(asks, drawers, graces=graces)
                self.assertEqual(told, self.best(asks, drawers, graces))

    def test_drawn_rows(self):
        chance = oracle.chance_of(520)
        for asks, graces in some_cases(520, 60):
            drawers = chance.randint(1, 5)
            told = best_put_in(asks, drawers, graces=graces)
            self.assertEqual(told, self.best(asks, drawers, graces))

    def test_edges(self):
        self.assertIsNone(best_put_in([], 1))
        self.assertEqual(best_put_in(["b"], 1), (1, 0, "b"))
        self.assertEqual(best_put_in(["b", "a"], MOST), (2, 0, "a"))
        names = oracle.some_names(40)
        self.assertEqual(best_put_in(names, 3), (40, 0, "aa"))
        self.assertEqual(best_put_in([(["a"], 40)], 1), (1, 0, "a"))
        for row, many in ((["a"] * 41, 41), ([(["a"], 401)], 401), (names + ["a"], 41)):
            with self.assertRaises(TooMany) as caught:
                best_put_in(row, 0, graces=3)
            self.assertEqual(caught.exception.many, many)
        self.assertRaises(NoDrawers, best_put_in, names, 0, graces=3)
        self.assertRaises(NoGraces, best_put_in, names, 1, graces=3)

    def test_soon_told(self):
        names = oracle.some_names(60)
        row = [names[7 * at % 60] for at in range(400)]
        began = time.process_time()
        for place in range(0, 399, 57):
            put_in(row, place, names[3])
            left_out(row, place)
            exchanged(row, place)
            put_away(row, place, names[3])
        self.assertEqual(put_in(row, 400, row[0])[0], 39)
        told = best_put_in(names[:40], 7)
        self.assertEqual(told[0], misses(names[:40], 7))
        self.assertLess(time.process_time() - began, 10)


if __name__ == "__main__":
    unittest.main()
