"""Stage 2: one clerk, points 12 to 19, and the clerk of point 1."""

import time
import unittest

import oracle
from missclock.clerks import (are_misses, asked, behind, is_standing, losses, lying, misses, reason,
                              walk)

MOST = 10 ** 30


def some_case(chance):
    letters = "abcdefg"[:chance.randint(1, 7)]
    drawers = chance.randint(1, 6)
    graces = oracle.some_graces(chance, letters)
    standing = oracle.some_standing(chance, drawers, graces, letters)
    return oracle.some_asks(chance, chance.randint(0, 30), letters), drawers, graces, standing


def some_cases(seed, many=300):
    chance = oracle.chance_of(seed)
    return [some_case(chance) for _ in range(many)]


def some_great_case(chance):
    """Far more asks and things, with graces far apart, some of them of thirty figures."""
    letters = oracle.some_names(chance.choice((8, 25, 60)))
    drawers = chance.choice((1, 2, 7, 20, 40, MOST))
    far = chance.choice((1, 3, 12, 40, 10 ** 29))
    graces = {thing: chance.randint(-far, far) for thing in letters if chance.random() < 0.7}
    standing = oracle.some_standing(chance, drawers, graces, letters)
    return oracle.some_asks(chance, chance.choice((60, 150, 400)), letters), drawers, graces, standing


def reason_by_words(asks, drawers, place, graces, standing, hits):
    """Point 17 word by word, by the truths of the walk."""
    thing = asks[place]
    first = dict(standing)
    limit = drawers + graces.get(thing, 0)
    ahead = oracle.last_ahead(asks, place)
    if limit < 1:
        return ("never",)
    if ahead is None and thing not in first:
        return ("new",)
    since = 0 if ahead is None else ahead + 1
    missed = [at for at in range(since, place) if not hits[at]]
    if hits[place]:
        return ("hit", missed)
    need = limit - first[thing] if ahead is None else limit
    assert len(missed) >= need
    return ("miss", missed[:need])


def is_standing_by_words(drawers, thing, graces):
    """Point 13 word by word, of a list of tuples of a text and a number."""
    names = [name for name, _ in thing]
    ages = [age for _, age in thing]
    if len(set(names)) < len(names) or ages != sorted(ages) or any(age < 0 for age in ages):
        return False
    return all(age < drawers + graces.get(name, 0) for name, age in thing)


class TestDrawers(unittest.TestCase):
    """Without graces, from nothing: word by word with drawers, as point 1 says."""

    def test_walk(self):
        chance = oracle.chance_of(1)
        for _ in range(300):
            asks = oracle.some_asks(chance, chance.randint(0, 30), "abcdefg")
            drawers = chance.randint(1, 6)
            hits, gone, chest = oracle.in_drawers(asks, drawers)
            self.assertEqual(walk(asks, drawers), hits)
            self.assertEqual(misses(asks, drawers), hits.count(False))
            told = losses(asks, drawers)
            self.assertEqual(told, [(at, things) for at, things in enumerate(gone) if things])
            after = behind(asks, drawers)
            aged = [(thing, age) for age, drawer in enumerate(chest) for thing in drawer]
            self.assertEqual(after, aged)
            lie = [(age, drawer) for age, drawer in enumerate(chest) if drawer]
            self.assertEqual(lying(drawers, after), lie)


class TestGraces(unittest.TestCase):
    """With graces, from any standing: word by word with ages, as point 12 says."""

    def test_walk(self):
        for asks, drawers, graces, standing in some_cases(12):
            hits, gone, after = oracle.in_ages(asks, drawers, graces, standing)
            self.assertEqual(walk(asks, drawers, graces=graces, standing=standing), hits)
            many = misses(asks, drawers, graces=graces, standing=standing)
            self.assertEqual(many, hits.count(False))
            self.assertEqual(behind(asks, drawers, graces=graces, standing=standing), after)
            lost = [(at, things) for at, things in enumerate(gone) if things]
            self.assertEqual(losses(asks, drawers, graces=graces, standing=standing), lost)
            self.assertIs(is_standing(drawers, after, graces=graces), True)

    def test_asked(self):
        for asks, drawers, graces, standing in some_cases(14, 100):
            now = standing
            for thing in asks:
                hits, gone, after = oracle.in_ages([thing], drawers, graces, now)
                told = asked(drawers, now, thing, graces=graces)
                self.assertEqual(told, (hits[0], after, gone[0]))
                now = after

    def test_row_behind_row(self):
        for asks, drawers, graces, standing in some_cases(15, 100):
            cut = len(asks) // 2
            first = behind(asks[:cut], drawers, graces=graces, standing=standing)
            both = behind(asks[cut:], drawers, graces=graces, standing=first)
            self.assertEqual(both, behind(asks, drawers, graces=graces, standing=standing))

    def test_lying(self):
        for _, drawers, graces, standing in some_cases(16):
            told = lying(drawers, standing, graces=graces)
            self.assertEqual([age for age, _ in told], sorted({age for _, age in standing}))
            flat = [(thing, age) for age, things in told for thing in things]
            self.assertEqual(flat, standing)

    def test_by_hand(self):
        self.assertEqual(walk(list("abab"), 1), [False] * 4)
        self.assertEqual(walk(list("abab"), 2), [False, False, True, True])
        self.assertEqual(behind(list("abab"), 2), [("b", 0), ("a", 0)])
        self.assertEqual(lying(2, [("b", 0), ("a", 0), ("c", 1)]), [(0, ["b", "a"]), (1, ["c"])])
        self.assertEqual(asked(2, [("b", 1), ("a", 1)], "c"), (False, [("c", 0)], ["b", "a"]))
        self.assertEqual(asked(2, [("b", 1), ("a", 1)], "a"), (True, [("a", 0), ("b", 1)], []))
        self.assertEqual(losses(list("abcd"), 2), [(2, ["a"]), (3, ["b"])])

    def test_agains_are_heard(self):
        row = [(["a", (("b", "c"), 2)], 3), "d"]
        self.assertEqual(walk(row, 3), walk(oracle.lay(row), 3))


class TestEdges(unittest.TestCase):
    def test_no_asks(self):
        self.assertEqual(walk([], 1), [])
        self.assertEqual(misses((), 1), 0)
        self.assertEqual(behind([], 2, standing=[("a", 1)]), [("a", 1)])
        self.assertEqual(losses([], 1), [])
        self.assertIs(are_misses([], 1, []), True)

    def test_limits(self):
        # Limits of 1, of 0 and below: kept for a moment, and never kept.
        self.assertEqual(walk(["a", "a"], 3, graces={"a": -2}), [False, True])
        self.assertEqual(asked(3, [("b", 1)], "a", graces={"a": -2}), (False, [("a", 0), ("b", 2)], []))
        for grace in (-3, -4, -10 ** 29):
            self.assertEqual(walk(["a", "a"], 3, graces={"a": grace}), [False, False])
            told = asked(3, [("b", 1), ("c", 2)], "a", graces={"a": grace})
            self.assertEqual(told, (False, [("b", 2)], ["c"]))

    def test_behind_the_last_drawer(self):
        graces = {"a": 2}
        self.assertEqual(behind(list("abc"), 1, graces=graces), [("c", 0), ("a", 2)])
        self.assertEqual(behind(list("abcd"), 1, graces=graces), [("d", 0)])
        self.assertEqual(losses(list("abcd"), 1, graces=graces), [(2, ["b"]), (3, ["c", "a"])])

    def test_drawers_and_graces_of_thirty_figures(self):
        graces = {"a": 10 ** 30 - 1, "b": 1 - 10 ** 30}
        self.assertEqual(walk(list("abab"), MOST, graces=graces), [False, False, True, True])
        old = [("b", 0), ("c", MOST - 1), ("a", 2 * MOST - 2)]
        self.assertIs(is_standing(MOST, old, graces=graces), True)
        self.assertEqual(asked(MOST, old, "d", graces=graces), (False, [("d", 0)], ["b", "c", "a"]))
        self.assertEqual(lying(MOST, old, graces=graces),
                         [(0, ["b"]), (MOST - 1, ["c"]), (2 * MOST - 2, ["a"])])

    def test_none_is_nothing_at_first_and_no_graces(self):
        row = list("abcab")
        for call in (walk, misses, behind, losses):
            told = call(row, 2)
            self.assertEqual(call(row, 2, graces=None, standing=None), told)
            self.assertEqual(call(row, 2, graces={}, standing=[]), told)
        self.assertEqual(asked(2, None, "a"), (False, [("a", 0)], []))
        self.assertEqual(asked(2, [], "a", graces=None), (False, [("a", 0)], []))
        self.assertEqual(lying(2, None), [])
        self.assertEqual(lying(2, []), [])

    def test_four_hundred_asks_and_things_are_soon_told(self):
        names = ["t" + chr(97 + at // 26) + chr(97 + at % 26) for at in range(400)]
        standing = [(name, at) for at, name in enumerate(names)]
        row = ["x" + name for name in names]
        began = time.process_time()
        self.assertEqual(misses(row, MOST, standing=standing), 400)
        self.assertEqual(misses(row, 400, standing=standing), 400)
        self.assertLess(time.process_time() - began, 5)


class TestStandings(unittest.TestCase):
    def test_standings(self):
        for standing in ([], [("a", 0)], [("a", 0), ("b", 0)], [("a", 1), ("b", 1)],
                         [("b", 0), ("a", 2)], [("z", 2), ("y", 2), ("x", 2)]):
            self.assertIs(is_standing(3, standing), True)
        self.assertIs(is_standing(1, [("a", 6)], graces={"a": 6}), True)

    def test_no_standings(self):
        for graces in (None, {}, {"a": 0}, {"a": 0, "b": 0, "c": 0}, {"z": -9}):
            self.no_standings(graces)
        self.assertIs(is_standing(3, [("a", 2)], graces={"a": -1}), False)
        self.assertIs(is_standing(3, [("a", 0)], graces={"a": -3}), False)
        self.assertIs(is_standing(3, [("a", 0)], graces={"a": -9}), False)
        self.assertIs(is_standing(1, [("a", 7)], graces={"a": 6}), False)

    def no_standings(self, graces):
        for thing in (None, (), (("a", 0),), {}, {"a": 0}, 3, True, "a", object(), [None], ["a"],
                      [["a", 0]], [("a",)], [("a", 0, 0)], [("A", 0)], [(3, 0)], [(["a"], 0)],
                      [("a", -1)], [("a", True)], [("a", False)], [("a", 0.0)], [("a", None)],
                      [("a", "0")], [("a", 0), ("a", 0)], [("a", 0), ("b", 1), ("a", 2)],
                      [("a", 1), ("b", 0)], [("a", 3)], [("a", 0), ("b", 3)], [("a", 10 ** 5000)],
                      [("a", True), ("b", 1)], [("a", 0), ("b", True)], [("a", 0), ("", 0)],
                      [("a", 0), ("abcdefghi", 0)], [("a", 0), ("B", 1)], [("a", 0), ("b c", 1)],
                      [("a", 0), (chr(228), 1)], [("a", 0), (chr(170), 1)], [("a", 0), ("b1", 1)],
                      [("a", 0), b"ab"], [("a", 0), "ab"], [("a", 0), ["b", 1]], [("a", -1), ("b", 0)]):
            self.assertIs(is_standing(3, thing, graces=graces), False, thing)


class TestReasons(unittest.TestCase):
    def test_against_the_walk(self):
        for asks, drawers, graces, standing in some_cases(17, 200):
            hits, _, _ = oracle.in_ages(asks, drawers, graces, standing)
            for place in range(len(asks)):
                told = reason(asks, drawers, place, graces=graces, standing=standing)
                self.assertEqual(told, reason_by_words(asks, drawers, place, graces, standing, hits))

    def test_by_hand(self):
        row = list("abcdab")
        self.assertEqual(reason(row, 2, 0), ("new",))
        self.assertEqual(reason(row, 2, 4), ("miss", [1, 2]))
        self.assertEqual(reason(row, 4, 4), ("hit", [1, 2, 3]))
        self.assertEqual(reason(row, 9, 5), ("hit", [2, 3]))
        self.assertEqual(reason(row, 2, 4, graces={"a": -2}), ("never",))
        self.assertEqual(reason(row, 2, 0, graces={"a": -2}), ("never",))
        self.assertEqual(reason(row, 3, 0, standing=[("a", 2)]), ("hit", []))
        self.assertEqual(reason(list("bca"), 3, 2, standing=[("a", 2)]), ("miss", [0]))
        self.assertEqual(reason(list("bca"), 3, 2, standing=[("a", 0)]), ("hit", [0, 1]))
        self.assertEqual(reason(["a", "a"], 1, 1), ("hit", []))


class TestDrawnGreat(unittest.TestCase):
    """Rows of up to four hundred asks against the plain reckoning: points 13 to 17."""

    def test_walk_behind_losses_reason(self):
        chance = oracle.chance_of(700)
        for _ in range(40):
            asks, drawers, graces, standing = some_great_case(chance)
            named = {"graces": graces, "standing": standing}
            hits, gone, after = oracle.in_ages(asks, drawers, graces, standing)
            self.assertEqual(walk(asks, drawers, **named), hits)
            self.assertEqual(misses(asks, drawers, **named), hits.count(False))
            self.assertEqual(behind(asks, drawers, **named), after)
            lost = [(at, things) for at, things in enumerate(gone) if things]
            self.assertEqual(losses(asks, drawers, **named), lost)
            missed = [at for at, hit in enumerate(hits) if not hit]
            self.assertIs(are_misses(asks, drawers, missed, **named), True)
            for place in chance.sample(range(len(asks)), 12):
                due = reason_by_words(asks, drawers, place, graces, standing, hits)
                self.assertEqual(reason(asks, drawers, place, **named), due)

    def test_asked(self):
        chance = oracle.chance_of(701)
        for _ in range(15):
            asks, drawers, graces, now = some_great_case(chance)
            for thing in asks[:100]:
                hits, gone, after = oracle.in_ages([thing], drawers, graces, now)
                told = asked(drawers, now, thing, graces=graces)
                self.assertEqual(told, (hits[0], after, gone[0]))
                now = after

    def test_is_standing(self):
        chance = oracle.chance_of(702)
        for _ in range(400):
            _, drawers, graces, standing = some_great_case(chance)
            for _ in range(chance.randint(0, 2)):
                at = chance.randint(0, len(standing))
                age = standing[min(at, len(standing) - 1)][1] if standing else 0
                name = chance.choice(oracle.some_names(61))
                standing.insert(at, (name, age + chance.choice((-1, 0, 0, 1))))
            if standing and chance.random() < 0.5:
                name, _ = standing.pop()
                standing.append((name, drawers + graces.get(name, 0) - chance.randint(0, 1)))
            due = is_standing_by_words(drawers, standing, graces)
            self.assertIs(is_standing(drawers, standing, graces=graces), due)

    def test_what_was_changed_in_between_is_told_as_it_is_then(self):
        row = list("abcabc")
        graces = {"a": 1}
        standing = [("c", 0)]
        calls = (walk, misses, behind, losses)
        for change in (lambda: row.append("a"), lambda: graces.update(b=2), lambda: standing.append(("d", 1)),
                       lambda: row.insert(0, "d"), lambda: graces.pop("a"), standing.clear):
            change()
            fresh = {"graces": dict(graces), "standing": list(standing)}
            for call in calls:
                told = call(row, 2, graces=graces, standing=standing)
                self.assertEqual(told, call(list(row), 2, **fresh))
            hits, _, _ = oracle.in_ages(row, 2, graces, standing)
            self.assertEqual(walk(row, 2, graces=graces, standing=standing), hits)
            for place in range(len(row)):
                told = reason(row, 2, place, graces=graces, standing=standing)
                self.assertEqual(told, reason_by_words(row, 2, place, graces, standing, hits))
            told = asked(2, standing, "a", graces=graces)
            hits, gone, after = oracle.in_ages(["a"], 2, graces, standing)
            self.assertEqual(told, (hits[0], after, gone[0]))

    def test_many_are_soon_told(self):
        """Far beyond what is needed here, far below what a look at each thing at each ask needs."""
        names = oracle.some_names(60)
        row = [names[7 * at % 60] for at in range(400)]
        graces = {name: at % 7 - 3 for at, name in enumerate(names)}
        began = time.process_time()
        for place in range(400):
            reason(row, 40, place)
        self.assertLess(time.process_time() - began, 0.6)
        began = time.process_time()
        for _ in range(100):
            for call in (walk, misses, behind, losses):
                call(row, 40)
        self.assertLess(time.process_time() - began, 0.6)
        now = []
        began = time.process_time()
        for _ in range(10):
            for thing in row:
                _, now, _ = asked(40, now, thing, graces=graces)
        self.assertLess(time.process_time() - began, 0.6)


class TestJudge(unittest.TestCase):
    def test_against_the_walk(self):
        for asks, drawers, graces, standing in some_cases(18, 100):
            hits, _, _ = oracle.in_ages(asks, drawers, graces, standing)
            missed = [place for place, hit in enumerate(hits) if not hit]

            def judged(thing):
                return are_misses(asks, drawers, thing, graces=graces, standing=standing)

            self.assertIs(judged(missed), True)
            self.assertIs(judged(missed + [len(asks)]), False)
            self.assertIs(judged(tuple(missed)), False)
            if missed:
                self.assertIs(judged(missed[1:]), False)
                self.assertIs(judged(missed[:-1]), False)
                self.assertIs(judged(missed + missed[-1:]), False)
                self.assertIs(judged([float(place) for place in missed]), False)
            if len(missed) > 1:
                self.assertIs(judged(missed[::-1]), False)
            other = [place for place, hit in enumerate(hits) if hit]
            if other:
                self.assertIs(judged(other[:1] + missed[1:]), False)

    def test_just_one_list_has_the_told_property(self):
        """Point 18 by its words: of all lists of places just the misses hold together."""
        for asks, drawers, graces, standing in some_cases(19, 25):
            asks = asks[:7]
            first = dict(standing)
            for mask in range(2 ** len(asks)):
                places = [at for at in range(len(asks)) if mask >> at & 1]
                holds = True
                for at, thing in enumerate(asks):
                    limit = drawers + graces.get(thing, 0)
                    ahead = [place for place in range(at) if asks[place] == thing]
                    since = ahead[-1] + 1 if ahead else 0
                    age = 0 if ahead else first.get(thing, 0)
                    new = not ahead and thing not in first
                    many = age + len([place for place in places if since <= place < at])
                    missed = new or limit < 1 or many >= limit
                    holds = holds and missed == (at in places)
                told = are_misses(asks, drawers, places, graces=graces, standing=standing)
                self.assertIs(told, holds)

    def test_of_anything(self):
        row = ["a", "b", "a"]
        self.assertIs(are_misses(row, 2, [0, 1]), True)
        for thing in (None, True, 3, "ab", (0, 1), {0: 1}, [False, True], [0, True], [False, 1],
                      [0.0, 1], [0, 1, None], [0, None], [0, "1"], [[0], 1], [1, 0], [0, 1, 1],
                      [], [0], object(), [0, 1, 2], [0, 10 ** 5000], list(range(10 ** 6))):
            self.assertIs(are_misses(row, 2, thing), False)
        self.assertIs(are_misses([], 2, ()), False)
        self.assertIs(are_misses([], 2, None), False)


class TestMore(unittest.TestCase):
    """Point 19: a drawer more, or a greater grace, and nothing gets worse."""

    def test_more_drawers_or_a_greater_grace(self):
        chance = oracle.chance_of(20)
        for _ in range(200):
            asks, drawers, graces, standing = some_case(chance)
            thing = chance.choice("abcdefg")
            more = dict(graces)
            more[thing] = more.get(thing, 0) + chance.randint(1, 3)
            for width, kind in ((drawers + 1, graces), (drawers, more)):
                one = dict(behind(asks, drawers, graces=graces, standing=standing))
                other = dict(behind(asks, width, graces=kind, standing=standing))
                for held in one:
                    self.assertLessEqual(other[held], one[held])
                hits = walk(asks, drawers, graces=graces, standing=standing)
                best = walk(asks, width, graces=kind, standing=standing)
                self.assertTrue(all(new or not old for old, new in zip(hits, best)))


if __name__ == "__main__":
    unittest.main()
