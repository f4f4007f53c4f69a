"""Stage 3: points 23 to 25, what is judged, and the papers that are told."""

import itertools
import time
import unittest

import oracle
from missclock.clerks import walk
from missclock.depths import depths
from missclock.judge_depths import depth_fault, hits_shown, misses_shown
from missclock.papers import why_hit, why_missed

GRACES = ({}, {"a": 1}, {"b": -1}, {"a": -2, "c": 1}, {"a": 2, "b": -3})
ODD = (None, True, False, 0, 3, "", "ab", (), {}, {0: 1}, object(), 1.5, b"a")
OF_ASKS = (True, False, 1.0, "1", [1], (1,), -1, object(), 10 ** 5000, -10 ** 5000, {}, b"1", "")


def fault_by_words(asks, graces, thing):
    """Point 23 word by word: each number by those ahead of it in the list itself."""
    if not isinstance(thing, list):
        return 0
    for place, one in enumerate(asks):
        if place >= len(thing):
            return place
        before = oracle.last_ahead(asks, place)
        told = thing[place]
        if before is None:
            right = told is None
        else:
            due = oracle.depth_by_words(thing[before + 1:place], graces.get(one, 0))
            right = isinstance(told, int) and not isinstance(told, bool) and told == due
        if not right:
            return place
    return None if len(thing) == len(asks) else len(asks)


def misses_by_words(asks, drawers, place, places, graces):
    """Point 24 word by word, of a rising list of places."""
    if not places or places[-1] != place:
        return False
    for at in places:
        before = oracle.last_ahead(asks, at)
        if before is not None:
            many = len([x for x in places if before < x < at])
            if many < drawers + graces.get(asks[at], 0):
                return False
    return True


def hits_by_words(asks, drawers, place, places, graces):
    """Point 25 word by word, of a rising list of places."""
    if not places or places[-1] != place:
        return False
    for at in places:
        before = oracle.last_ahead(asks, at)
        if before is None:
            return False
        many = len([x for x in range(before + 1, at) if x not in places])
        if many >= drawers + graces.get(asks[at], 0):
            return False
    return True


def closed(asks, place, bring):
    """A place with all that each place in it brings in, rising."""
    wanted = [place]
    for at in wanted:
        wanted += [x for x in bring(at) if x not in wanted]
    return sorted(wanted)


def missed_paper(asks, drawers, place, graces, hits):
    """The paper of point 24, word by word."""
    def bring(at):
        before = oracle.last_ahead(asks, at)
        need = drawers + graces.get(asks[at], 0)
        if before is None or need < 1:
            return []
        return [x for x in range(before + 1, at) if not hits[x]][-need:]

    return closed(asks, place, bring)


def hit_paper(asks, place, hits):
    """The paper of point 25, word by word."""
    def bring(at):
        return [x for x in range(oracle.last_ahead(asks, at) + 1, at) if hits[x]]

    return closed(asks, place, bring)


class TestDepthFault(unittest.TestCase):
    def test_all_small_rows(self):
        for asks in oracle.all_rows(6):
            for graces in GRACES[:3]:
                told = depths(asks, graces=graces)
                self.assertIsNone(depth_fault(asks, told, graces=graces))
                self.assertEqual(depth_fault(asks, told + [0], graces=graces), len(asks))
                self.assertEqual(depth_fault(asks, told + [None, "x"], graces=graces), len(asks))
                for place in range(len(asks)):
                    self.assertEqual(depth_fault(asks, told[:place], graces=graces), place)

    def test_all_lists_of_small_rows(self):
        for asks in oracle.all_rows(4):
            for graces in GRACES:
                for thing in itertools.product((None, 0, 1, 2), repeat=len(asks)):
                    due = fault_by_words(asks, graces, list(thing))
                    self.assertEqual(depth_fault(asks, list(thing), graces=graces), due)

    def test_drawn_lists(self):
        chance = oracle.chance_of(230)
        for _ in range(300):
            asks = oracle.some_asks(chance, chance.randint(0, 25), "abcdef")
            graces = oracle.some_graces(chance, "abcdef")
            thing = depths(asks, graces=graces)
            for _ in range(chance.randint(0, 3)):
                if thing:
                    thing[chance.randrange(len(thing))] = chance.choice((None, 0, 1, 2, 3, 4, True))
            if chance.random() < 0.3:
                thing = (thing + [0, 0])[:chance.randint(0, len(thing) + 2)]
            due = fault_by_words(asks, graces, thing)
            self.assertEqual(depth_fault(asks, thing, graces=graces), due)

    def test_of_anything(self):
        for thing in ODD:
            self.assertEqual(depth_fault([], thing), 0)
            self.assertEqual(depth_fault(list("aab"), thing), 0)
        self.assertIsNone(depth_fault([], []))
        self.assertEqual(depth_fault([], [None]), 0)
        self.assertEqual(depth_fault(["a"], []), 0)
        row = list("abab")
        self.assertIsNone(depth_fault(row, [None, None, 1, 1]))
        self.assertEqual(depth_fault(row, (None, None, 1, 1)), 0)
        for odd in OF_ASKS:
            self.assertEqual(depth_fault(row, [None, None, odd, 1]), 2)
            self.assertEqual(depth_fault(row, [None, odd, 1, 1]), 1)
        self.assertEqual(depth_fault(list("aa"), [None, False]), 1)
        self.assertEqual(depth_fault(list("aa"), [None, None]), 1)
        self.assertEqual(depth_fault(row, [0, None, 1, 1]), 0)
        endless = [None]
        endless.append(endless)
        self.assertEqual(depth_fault(row, endless), 1)
        self.assertEqual(depth_fault(row, [None, None, 1, 1] + [0] * 10 ** 6), 4)

    def test_far_below(self):
        graces = {"a": -10 ** 29, "b": 10 ** 30 - 1}
        self.assertIsNone(depth_fault(list("abab"), [None, None, 10 ** 29 + 1, 0], graces=graces))
        self.assertEqual(depth_fault(list("abab"), [None, None, 10 ** 29, 0], graces=graces), 2)


class TestPapers(unittest.TestCase):
    def test_all_lists_of_small_rows(self):
        for asks in oracle.all_rows(5):
            for drawers, graces in itertools.product((1, 2), GRACES[::2]):
                hits = walk(asks, drawers, graces=graces)
                for place in range(len(asks)):
                    for places in oracle.all_lists(place + 1):
                        missed = misses_shown(asks, drawers, place, places, graces=graces)
                        self.assertIs(missed, misses_by_words(asks, drawers, place, places, graces))
                        hit = hits_shown(asks, drawers, place, places, graces=graces)
                        self.assertIs(hit, hits_by_words(asks, drawers, place, places, graces))
                        # Whoever is in one is missed, or hit.
                        self.assertFalse(missed and any(hits[x] for x in places))
                        self.assertFalse(hit and not all(hits[x] for x in places))

    def check_told(self, asks, drawers, graces):
        hits = walk(asks, drawers, graces=graces)
        for place in range(len(asks)):
            missed = why_missed(asks, drawers, place, graces=graces)
            hit = why_hit(asks, drawers, place, graces=graces)
            if hits[place]:
                self.assertIsNone(missed)
                self.assertEqual(hit, hit_paper(asks, place, hits))
                self.assertIs(hits_shown(asks, drawers, place, hit, graces=graces), True)
                self.assertIs(misses_shown(asks, drawers, place, hit, graces=graces), False)
            else:
                self.assertIsNone(hit)
                due = missed_paper(asks, drawers, place, graces, hits)
                self.assertEqual(missed, due)
                self.assertIs(misses_shown(asks, drawers, place, missed, graces=graces), True)
                self.assertIs(hits_shown(asks, drawers, place, missed, graces=graces), False)

    def test_told_of_all_small_rows(self):
        for asks in oracle.all_rows(6):
            if len(asks) == 6:
                for drawers in (1, 2, 3):
                    self.check_told(asks, drawers, {})

    def test_told_of_drawn_rows(self):
        chance = oracle.chance_of(240)
        for _ in range(200):
            letters = "abcdefgh"[:chance.randint(1, 8)]
            asks = oracle.some_asks(chance, chance.randint(1, 30), letters)
            self.check_told(asks, chance.randint(1, 6), oracle.some_graces(chance, letters))

    def test_by_hand(self):
        row = list("abcabb")
        # a at 3 is missed by b and c since; these are first asks.
        self.assertEqual(why_missed(row, 2, 3), [1, 2, 3])
        self.assertIsNone(why_hit(row, 2, 3))
        self.assertEqual(why_hit(row, 2, 5), [5])
        self.assertIsNone(why_missed(row, 2, 5))
        # With one drawer the latest miss since is enough.
        self.assertEqual(why_missed(row, 1, 3), [2, 3])
        self.assertEqual(why_missed(row, 1, 0), [0])
        self.assertEqual(why_hit(list("ababab"), 2, 5), [2, 3, 4, 5])
        # A limit below 1 asks for nothing.
        self.assertEqual(why_missed(row, 2, 3, graces={"a": -2}), [3])
        self.assertEqual(why_missed(row, 2, 5, graces={"b": -3}), [5])
        self.assertIs(misses_shown(row, 2, 3, [3], graces={"a": -2}), True)
        self.assertIs(hits_shown(row, 2, 5, [5], graces={"b": -2}), False)
        self.assertIs(hits_shown(row, 2, 5, [5], graces={"b": -1}), True)

    def test_of_anything(self):
        row = list("abcabb")
        for thing in ODD + ([], [None], [3.0], [1, 2, 3.0], [1, 2, "3"], [1, 2, [3]], (1, 2, 3),
                            [2, 1, 3], [1, 2, 2, 3], [1, 2, 3, 4], [1, 2], [True, 2, 3], [False, 3],
                            [-1, 1, 2, 3], [1, 2, 3, 3], [1, 2, 10 ** 5000], [1, 2, 6], {1, 2, 3},
                            list(range(10 ** 5))):
            self.assertIs(misses_shown(row, 2, 3, thing), False)
            self.assertIs(hits_shown(row, 2, 5, thing), False)
        self.assertIs(misses_shown(row, 2, 3, [1, 2, 3]), True)
        self.assertIs(misses_shown(row, 2, 3, [0, 1, 2, 3]), True)
        self.assertIs(hits_shown(row, 2, 5, [5]), True)
        self.assertIs(hits_shown(row, 2, 5, [0, 5]), False)
        # A truth is no place, though it is as great as one.
        self.assertIs(misses_shown(row, 1, 1, [True]), False)
        self.assertIs(misses_shown(row, 1, 0, [False]), False)
        self.assertIs(misses_shown(row, 1, 0, [0]), True)

    def test_drawers_and_graces_of_thirty_figures(self):
        most = 10 ** 30
        row = list("abab")
        self.assertEqual(why_hit(row, most, 3), [2, 3])
        self.assertIsNone(why_missed(row, most, 3))
        self.assertEqual(why_missed(row, most, 3, graces={"b": -most}), [3])
        self.assertIsNone(why_missed(row, most, 3, graces={"b": 1 - most}))
        self.assertEqual(why_hit(row, 1, 3, graces={"b": most - 1, "a": 1 - most}), [3])
        self.assertIs(hits_shown(row, most, 3, [2, 3]), True)
        self.assertIs(hits_shown(row, most, 3, [3]), True)
        self.assertIs(misses_shown(row, most, 3, [0, 1, 2, 3]), False)
        self.assertIs(misses_shown(row, most, 3, [3], graces={"b": -most}), True)

    def test_four_hundred_asks_are_soon_told(self):
        names = oracle.some_names(60)
        chance = oracle.chance_of(241)
        rows = ([names[7 * at % 60] for at in range(400)], oracle.some_asks(chance, 400, names),
                oracle.some_asks(chance, 400, names[:20]), [(names[:2], 200)])
        began = time.process_time()
        for row in rows:
            for drawers in (1, 7, 40, 10 ** 30):
                for place in range(0, 400, 19):
                    missed = why_missed(row, drawers, place)
                    hit = why_hit(row, drawers, place)
                    self.assertIs(missed is None, hit is not None)
                    if hit is None:
                        self.assertIs(misses_shown(row, drawers, place, missed), True)
                    else:
                        self.assertIs(hits_shown(row, drawers, place, hit), True)
                self.assertIsNone(depth_fault(row, depths(row)))
        self.assertLess(time.process_time() - began, 20)


if __name__ == "__main__":
    unittest.main()
