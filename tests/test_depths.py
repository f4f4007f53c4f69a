"""Stage 3: depths, points 20 to 22, 26 and 27."""

import time
import unittest

import oracle
from missclock.clerks import misses, walk
from missclock.depths import (depths, drawers_for, drawers_to_hit, missed_by, nearest_again,
                              thinned)
from missclock.errors import NoWish

FAR_BELOW = -10 ** 29


def some_cases(seed, many=200):
    chance = oracle.chance_of(seed)
    cases = [([], {})]
    for _ in range(many):
        letters = "abcdefg"[:chance.randint(1, 7)]
        graces = oracle.some_graces(chance, letters)
        cases.append((oracle.some_asks(chance, chance.randint(0, 30), letters), graces))
    return cases


def missed(told, drawers):
    return [depth is None or depth >= drawers for depth in told]


class TestDepths(unittest.TestCase):
    def test_by_hand(self):
        self.assertEqual(depths([]), [])
        self.assertEqual(depths(list("dabcba")), [None, None, None, None, 1, 2])
        self.assertEqual(depths(list("aaa")), [None, 0, 0])
        self.assertEqual(depths(list("abab")), [None, None, 1, 1])
        self.assertEqual(depths(list("abab"), graces={"b": 1}), [None, None, 1, 0])
        self.assertEqual(depths(list("abab"), graces={"b": -2}), [None, None, 1, 2])
        self.assertEqual(depths(list("aa"), graces={"a": -5}), [None, 5])
        self.assertEqual(depths([(("a", "b"), 2)]), [None, None, 1, 1])

    def test_by_the_words_of_point_20(self):
        for asks, graces in some_cases(20):
            told = depths(asks, graces=graces)
            self.assertEqual(len(told), len(asks))
            for at, thing in enumerate(asks):
                ahead = [place for place in range(at) if asks[place] == thing]
                if not ahead:
                    self.assertIsNone(told[at])
                    continue
                since = told[ahead[-1] + 1:at]
                grace = graces.get(thing, 0)
                best = 0
                for d in range(1, 40):
                    if len([x for x in since if x is None or x >= d]) >= d + grace:
                        best = d
                self.assertEqual(told[at], best)

    def test_drawn_great_rows(self):
        """By the words of point 20, where the greatest d is one of the depths since, or of k less the grace."""
        chance = oracle.chance_of(800)
        for _ in range(40):
            names = oracle.some_names(chance.choice((3, 15, 60)))
            asks = oracle.some_asks(chance, chance.choice((50, 120)), names)
            far = chance.choice((0, 2, 9, 60, 10 ** 29, 10 ** 30 - 1))
            graces = {name: chance.randint(-far, far) for name in names if chance.random() < 0.7}
            told = depths(asks, graces=graces)
            for at, thing in enumerate(asks):
                before = oracle.last_ahead(asks, at)
                if before is None:
                    self.assertIsNone(told[at])
                    continue
                since = told[before + 1:at]
                grace = graces.get(thing, 0)
                tried = [x for x in since if x is not None] + [k - grace for k in range(len(since) + 1)]
                due = [d for d in tried if d >= 1 and
                       len([x for x in since if x is None or x >= d]) >= d + grace]
                self.assertEqual(told[at], max(due, default=0))

    def test_many_are_soon_told(self):
        names = oracle.some_names(60)
        chance = oracle.chance_of(801)
        began = time.process_time()
        for row in ([names[7 * at % 60] for at in range(400)], oracle.some_asks(chance, 400, names)):
            for _ in range(20):
                depths(row)
                missed_by(row)
                drawers_for(row, 200)
                thinned(row)
                nearest_again(row, 10)
        self.assertLess(time.process_time() - began, 1)

    def test_by_clerks(self):
        for asks, graces in some_cases(21, 100):
            self.assertEqual(depths(asks, graces=graces), oracle.depths_by_clerks(asks, graces, 45))

    def test_far_below(self):
        graces = {"a": FAR_BELOW, "b": FAR_BELOW + 3, "c": -10 ** 30}
        told = depths(list("abaabbcc"), graces=graces)
        self.assertEqual(told, [None, None, -FAR_BELOW + 1, -FAR_BELOW, -FAR_BELOW - 1, -FAR_BELOW - 3,
                                None, 10 ** 30])
        self.assertEqual(depths(list("abab"), graces={"a": FAR_BELOW, "b": FAR_BELOW}),
                         [None, None, 10 ** 29 + 1, 10 ** 29 + 1])
        self.assertEqual(depths(list("abcab"), graces={"a": 5, "b": 10 ** 30 - 1})[3:], [0, 0])

    def test_four_hundred_asks_are_soon_told(self):
        names = ["t" + chr(97 + at // 26) + chr(97 + at % 26) for at in range(60)]
        chance = oracle.chance_of(22)
        row = ([(names[:40], 10)], names * 6 + names[:40], oracle.some_asks(chance, 400, names))
        graces = {name: FAR_BELOW + at * 10 ** 27 for at, name in enumerate(names)}
        began = time.process_time()
        for one in row:
            for kind in ({}, graces):
                told = depths(one, graces=kind)
                asks = oracle.lay(one)
                self.assertEqual(len(told), 400)
                for drawers in (1, 10, 10 ** 29, 10 ** 30):
                    hits = walk(asks, drawers, graces=kind)
                    self.assertEqual(missed(told, drawers), [not hit for hit in hits])
                missed_by(one, graces=kind)
                thinned(one, graces=kind)
                nearest_again(one, 10 ** 29, graces=kind)
        self.assertLess(time.process_time() - began, 20)


class TestMissed(unittest.TestCase):
    def test_point_21(self):
        for asks, graces in some_cases(23):
            told = depths(asks, graces=graces)
            steps = missed_by(asks, graces=graces)
            self.assertEqual(steps[0][0], 1)
            self.assertEqual([p for p, _ in steps], sorted({p for p, _ in steps}))
            counts = [many for _, many in steps]
            self.assertEqual(counts, sorted(set(counts), reverse=True))
            for drawers in range(1, 45):
                hits = walk(asks, drawers, graces=graces)
                self.assertEqual(missed(told, drawers), [not hit for hit in hits])
                many = [m for p, m in steps if p <= drawers][-1]
                self.assertEqual(many, hits.count(False))

    def test_by_hand(self):
        self.assertEqual(missed_by([]), [(1, 0)])
        self.assertEqual(missed_by(["a"]), [(1, 1)])
        self.assertEqual(missed_by(["a", "a"]), [(1, 1)])
        self.assertEqual(missed_by(list("dabcba")), [(1, 6), (2, 5), (3, 4)])
        self.assertEqual(missed_by(["a", "a"], graces={"a": -10 ** 30}), [(1, 2), (10 ** 30 + 1, 1)])
        self.assertEqual(missed_by(list("aba"), graces={"a": FAR_BELOW}), [(1, 3), (10 ** 29 + 2, 2)])


class TestDrawersFor(unittest.TestCase):
    def test_drawers_for(self):
        for asks, graces in some_cases(24, 100):
            for most in range(len(asks) + 2):
                told = drawers_for(asks, most, graces=graces)
                counts = [misses(asks, drawers, graces=graces) for drawers in range(1, 45)]
                fewest = [p for p, many in enumerate(counts, start=1) if many <= most]
                self.assertEqual(told, fewest[0] if fewest else None)

    def test_drawers_for_edges(self):
        self.assertEqual(drawers_for([], 0), 1)
        self.assertIsNone(drawers_for(["a"], 0))
        self.assertEqual(drawers_for(["a"], 10 ** 29), 1)
        self.assertEqual(drawers_for(["a", "a"], 1, graces={"a": -10 ** 30}), 10 ** 30 + 1)
        self.assertIsNone(drawers_for(["a", "a"], 0, graces={"a": -10 ** 30}))

    def test_drawers_to_hit(self):
        chance = oracle.chance_of(25)
        for asks, graces in some_cases(26, 100):
            walks = [walk(asks, drawers, graces=graces) for drawers in range(1, 45)]
            for _ in range(8):
                many = chance.randint(0, min(4, len(asks)))
                places = sorted(chance.sample(range(len(asks)), many))
                fewest = [p for p, hits in enumerate(walks, start=1) if all(hits[at] for at in places)]
                told = drawers_to_hit(asks, places, graces=graces)
                self.assertEqual(told, fewest[0] if fewest else None)

    def test_drawers_to_hit_edges(self):
        self.assertEqual(drawers_to_hit([], []), 1)
        self.assertEqual(drawers_to_hit(["a"], []), 1)
        self.assertIsNone(drawers_to_hit(["a"], [0]))
        self.assertEqual(drawers_to_hit(["a", "a"], [1]), 1)
        self.assertIsNone(drawers_to_hit(["a", "a"], [0, 1]))
        self.assertEqual(drawers_to_hit(["a", "a"], [1], graces={"a": -10 ** 30}), 10 ** 30 + 1)
        for places in ([2], [0, 2], [0, 1, 2], [1, 1], [1, 0], [-1], [True]):
            self.assertRaises(NoWish, drawers_to_hit, ["a", "a"], places)
        self.assertRaises(NoWish, drawers_to_hit, [], [0])


class TestThinned(unittest.TestCase):
    def test_no_other_depth_becomes_another(self):
        for asks, graces in some_cases(27):
            told = depths(asks, graces=graces)
            stay = [at for at, thing in enumerate(asks) if told[at] != 0 or graces.get(thing, 0) != 0]
            thin = thinned(asks, graces=graces)
            self.assertEqual(thin, [asks[at] for at in stay])
            self.assertEqual(depths(thin, graces=graces), [told[at] for at in stay])

    def test_by_hand(self):
        self.assertEqual(thinned([]), [])
        self.assertEqual(thinned(list("aaabbab")), list("abab"))
        self.assertEqual(thinned(["a", "a"], graces={"a": 1}), ["a", "a"])
        self.assertEqual(thinned(["a", "a"], graces={"a": 0}), ["a"])
        self.assertEqual(thinned([(["a"], 400)]), ["a"])


class TestNearestAgain(unittest.TestCase):
    def test_against_the_walk(self):
        for asks, graces in some_cases(28):
            for drawers in range(1, 6):
                hits = walk(asks, drawers, graces=graces)
                pairs = []
                for at in range(len(asks)):
                    for to in range(at + 1, len(asks)):
                        between = [x for x in range(at + 1, to) if not hits[x]]
                        if hits[at] or hits[to] or asks[at] != asks[to]:
                            continue
                        if asks[at] not in [asks[x] for x in between]:
                            pairs.append((len(between), at, to))
                            limit = drawers + graces.get(asks[at], 0)
                            self.assertGreaterEqual(len(between), limit)
                best = min(pairs)[1:] if pairs else None
                self.assertEqual(nearest_again(asks, drawers, graces=graces), best)

    def test_misses_running_are_of_unlike_things(self):
        for asks, _ in some_cases(29, 100):
            for drawers in range(1, 6):
                hits = walk(asks, drawers)
                things = [thing for thing, hit in zip(asks, hits) if not hit]
                for at in range(len(things)):
                    running = things[at:at + drawers + 1]
                    self.assertEqual(len(set(running)), len(running))

    def test_by_hand(self):
        self.assertIsNone(nearest_again([], 1))
        self.assertIsNone(nearest_again(list("aaa"), 1))
        self.assertEqual(nearest_again(list("aaa"), 1, graces={"a": -1}), (0, 1))
        self.assertEqual(nearest_again(list("abab"), 1), (0, 2))
        # The hit of a at 1 lies between two of its misses.
        self.assertEqual(nearest_again(list("aaba"), 1), (0, 3))
        self.assertIsNone(nearest_again(list("abab"), 10 ** 30))
        told = nearest_again(list("abccabcc"), 1)
        self.assertEqual(told, (0, 4))


if __name__ == "__main__":
    unittest.main()
