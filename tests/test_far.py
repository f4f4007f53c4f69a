"""Stage 9: far rows, points 59 to 65."""

import time
import unittest

import oracle
from missclock.clerks import behind, misses, walk
from missclock.depths import depths, missed_by
from missclock.errors import NoDrawers, NoGraces, NoPlace, NoRow, NoStanding
from missclock.far import (behind_far, depth_at, depth_at_last, hits_at, misses_ahead, missed_far, nth_miss,
                           stands)
from missclock.rows import ask_at, asks_in, often

MOST = 10 ** 30

# Rows that ask far more often than anybody could go through, four agains deep.
FAR = [
    [(["a", (["b", "c"], MOST)], MOST), "d"],
    ["d", ([(["a", "b"], MOST), "c", (["a", "c", "b"], MOST)], MOST), "a"],
    [([(["a", ([(["b", "c", "a"], MOST), "d"], MOST), "e"], MOST), "b"], MOST), "a", "f"],
    [([(("a", "b", "a", "c"), MOST - 1), (["b", "d", "e"], 7), "a"], MOST), (("c", "f"), 10 ** 15), "b"],
]


def drawn(seed, many, most=400, deep=3):
    """Drawn rows, drawers, graces and standings, of so few asks that they can be laid out."""
    chance = oracle.chance_of(seed)
    while many:
        letters = "abcdefgh"[:chance.randint(1, 8)]
        row = oracle.some_row(chance, letters, deep)
        asks = oracle.lay(row)
        if len(asks) <= most:
            graces = oracle.some_graces(chance, letters)
            drawers = chance.randint(1, 6)
            yield chance, row, asks, drawers, graces, oracle.some_standing(chance, drawers, graces, "abcdefghij")
            many -= 1


def rounds_of(asks, drawers, many=20):
    """The places missed in each of so many rounds, from nothing."""
    hits, _, _ = oracle.in_ages(asks * many, drawers, {}, [])
    size = len(asks)
    return [[at for at in range(size) if not hits[turn * size + at]] for turn in range(many)]


class TestBehind(unittest.TestCase):
    def test_drawn(self):
        for _, row, asks, drawers, graces, standing in drawn(590, 500, 3000, 4):
            hits, _, left = oracle.in_ages(asks, drawers, graces, standing)
            told = behind_far(row, drawers, graces=graces, standing=standing)
            self.assertEqual(told, (left, hits.count(False)), (row, drawers, graces, standing))

    def test_all_small_rounds_said_often(self):
        for asks in oracle.all_rows(4):
            for drawers in (1, 2, 3):
                for times in (1, 2, 7):
                    hits, _, left = oracle.in_ages(asks * times, drawers, {"b": 1}, [("z", 0), ("c", 0)])
                    row = [(asks, times)] if asks else []
                    hits = hits if asks else []
                    left = left if asks else [("z", 0), ("c", 0)]
                    told = behind_far(row, drawers, graces={"b": 1}, standing=[("z", 0), ("c", 0)])
                    self.assertEqual(told, (left, hits.count(False)))

    def test_as_of_near_rows(self):
        for _, row, _, drawers, graces, standing in drawn(591, 100):
            told = (behind(row, drawers, graces=graces, standing=standing),
                    misses(row, drawers, graces=graces, standing=standing))
            self.assertEqual(behind_far(row, drawers, graces=graces, standing=standing), told)

    def test_by_hand(self):
        self.assertEqual(behind_far([], 1), ([], 0))
        self.assertEqual(behind_far((), MOST, standing=[("a", 5)]), ([("a", 5)], 0))
        self.assertEqual(behind_far([(["a", "b"], MOST)], 1), ([("b", 0)], 2 * MOST))
        self.assertEqual(behind_far([(["a", "b"], MOST)], 2), ([("b", 0), ("a", 0)], 2))
        self.assertEqual(behind_far([(["a", "b"], MOST)], 1, standing=[("b", 0), ("a", 0)]), ([("b", 0), ("a", 0)], 0))
        self.assertEqual(behind_far([(["a", "b"], MOST)], 1, graces={"b": 1}), ([("b", 0), ("a", 0)], 3))
        # With one drawer all asks miss, with two a misses twice, with three each thing once.
        self.assertEqual(behind_far(FAR[0], 1), ([("d", 0)], MOST * (2 * MOST + 1) + 1))
        self.assertEqual(behind_far(FAR[0], 2), ([("d", 0), ("c", 1), ("b", 1), ("a", 1)], 5))
        self.assertEqual(behind_far(FAR[0], 3), ([("d", 0), ("c", 1), ("b", 1), ("a", 1)], 4))

    def test_a_limit_that_is_reached_after_very_many_rounds(self):
        row = [(["a", "b"], 10 ** 29)]
        far = 2 * 10 ** 29
        for more, held in ((far + 1, True), (far, True), (far - 1, False)):
            # x is as old as there are misses, and bears as many as its limit less 1.
            told, many = behind_far(row, 1, graces={"x": more}, standing=[("x", 0)])
            self.assertEqual(told, [("b", 0)] + ([("x", far)] if held else []))
            self.assertEqual(many, far)
            inner = ["x"] + row + ["x"]
            self.assertIs(hits_at(inner, 1, far + 1, graces={"x": more}), held)
            self.assertEqual(misses_ahead([(inner, 5)], 1, 5 * (far + 2), graces={"x": more}),
                             5 * far + (1 if held else 10 - 4))
        old = [("x", 10 ** 29 - 7)]
        self.assertEqual(behind_far(row, 10 ** 29, standing=old), ([("b", 0), ("a", 0), ("x", 10 ** 29 - 5)], 2))
        self.assertEqual(behind_far(row, 10 ** 29, standing=[("x", 10 ** 29 - 2)]), ([("b", 0), ("a", 0)], 2))

    def test_a_limit_reached_within_rounds_within_rounds(self):
        # Ahead of each ask of x but the first 2 * 10 ** 15 asks miss.
        row = [(["x", (["a", "b"], 10 ** 15)], 10 ** 30)]
        gap = 2 * 10 ** 15
        for more in (gap - 1, gap, gap + 1):
            kept = 1 + more > gap
            _, many = behind_far(row, 1, graces={"x": more})
            self.assertEqual(many, gap * MOST + (1 if kept else MOST))
            self.assertIs(hits_at(row, 1, (gap + 1) * (MOST - 1), graces={"x": more}), kept)

    def test_never_kept(self):
        for more in (-1, -MOST):
            self.assertEqual(behind_far([(["a"], MOST)], 1, graces={"a": more}), ([], MOST))
            told = behind_far([(["a", "b"], MOST)], 1, graces={"a": more})
            self.assertEqual(told, ([("b", 0)], 2 * MOST))
        self.assertEqual(behind_far([(["a"], MOST)], MOST, graces={"a": -MOST}), ([], MOST))
        self.assertEqual(behind_far([(["a"], MOST)], MOST, graces={"a": 1 - MOST}), ([("a", 0)], 1))

    def test_one_round_more(self):
        """Where a round stands, each further one misses as many: so of 10 ** 30 of them it is told by a few."""
        chance = oracle.chance_of(592)
        for _ in range(150):
            letters = "abcdefgh"[:chance.randint(2, 8)]
            inner = oracle.some_row(chance, letters, 2)
            ahead, after = oracle.some_asks(chance, 3, letters), oracle.some_asks(chance, 3, letters)
            drawers, graces = chance.randint(1, 6), oracle.some_graces(chance, letters)
            some = [behind_far(ahead + [(inner, times)] + after, drawers, graces=graces) for times in (50, 51, MOST)]
            step = some[1][1] - some[0][1]
            self.assertEqual(some[2][1], some[0][1] + step * (MOST - 50))
            self.assertEqual([thing for thing, _ in some[2][0]],
                             [thing for thing, _ in some[0][0] if thing in dict(some[2][0])])

    def test_four_agains_deep(self):
        for row in FAR:
            for drawers in (1, 2, 3, 4, 5, 6, MOST):
                _, many = behind_far(row, drawers)
                self.assertEqual(misses_ahead(row, drawers, asks_in(row)), many)
                self.assertEqual(dict(missed_far(row)).get(drawers, many), many)
                if many < 10 ** 6:
                    self.assertIsNone(nth_miss(row, drawers, many))
                    self.assertIs(hits_at(row, drawers, nth_miss(row, drawers, many - 1)), False)


class TestPlaces(unittest.TestCase):
    def test_drawn(self):
        for chance, row, asks, drawers, graces, standing in drawn(600, 250):
            hits, _, _ = oracle.in_ages(asks, drawers, graces, standing)
            missed = [at for at, hit in enumerate(hits) if not hit]
            for _ in range(6):
                place = chance.randint(0, len(asks))
                told = misses_ahead(row, drawers, place, graces=graces, standing=standing)
                self.assertEqual(told, hits[:place].count(False))
                if place < len(asks):
                    self.assertIs(hits_at(row, drawers, place, graces=graces, standing=standing), hits[place])
                number = chance.randint(0, len(missed) + 1)
                told = nth_miss(row, drawers, number, graces=graces, standing=standing)
                self.assertEqual(told, (missed + [None, None])[number])

    def test_all_places_of_small_rows(self):
        for asks in oracle.all_rows(3):
            row = [(asks, 2), "a", (["b", (asks, 2)], 3)] if asks else ["a"]
            laid = oracle.lay(row)
            for drawers in (1, 2):
                hits = walk(row, drawers)
                missed = [at for at, hit in enumerate(hits) if not hit]
                self.assertEqual([hits_at(row, drawers, at) for at in range(len(laid))], hits)
                ahead = [hits[:at].count(False) for at in range(len(laid) + 1)]
                self.assertEqual([misses_ahead(row, drawers, at) for at in range(len(laid) + 1)], ahead)
                told = [nth_miss(row, drawers, number) for number in range(len(missed) + 2)]
                self.assertEqual(told, missed + [None, None])

    def test_far_misses_lie_where_as_many_are_ahead(self):
        chance = oracle.chance_of(610)
        for row in FAR:
            for drawers in (1, 2, 3, 4):
                _, many = behind_far(row, drawers, graces={"b": 1})
                for number in [0, many - 1] + [chance.randrange(many) for _ in range(20)]:
                    place = nth_miss(row, drawers, number, graces={"b": 1})
                    self.assertEqual(misses_ahead(row, drawers, place, graces={"b": 1}), number)
                    self.assertIs(hits_at(row, drawers, place, graces={"b": 1}), False)
                self.assertIsNone(nth_miss(row, drawers, many, graces={"b": 1}))
                self.assertIsNone(nth_miss(row, drawers, 10 ** 5000, graces={"b": 1}))

    def test_by_hand(self):
        row = [(["a", "b"], MOST)]
        self.assertEqual(misses_ahead(row, 1, MOST), MOST)
        self.assertEqual(misses_ahead(row, 2, 2 * MOST), 2)
        self.assertEqual(nth_miss(row, 1, MOST), MOST)
        self.assertEqual(nth_miss(row, 2, 1), 1)
        self.assertIsNone(nth_miss(row, 2, 2))
        self.assertIs(hits_at(row, 2, MOST), True)
        self.assertIs(hits_at(row, 2, 1), False)
        self.assertIsNone(nth_miss([], 1, 0))
        self.assertEqual(misses_ahead([], 1, 0), 0)

    def test_no_place(self):
        row = [(["a"], MOST)]
        for place in (None, True, False, -1, "0", 0.0, [0], MOST + 1, 10 ** 5000, -10 ** 5000):
            for call in (misses_ahead, hits_at):
                with self.assertRaises(NoPlace) as caught:
                    call(row, 1, place, graces=3)
                self.assertEqual(caught.exception.place, place)
        self.assertRaises(NoPlace, hits_at, row, 1, MOST)
        self.assertRaises(NoPlace, hits_at, [], 1, 0)
        for number in (None, True, False, -1, "0", 0.0, [0], -10 ** 5000):
            with self.assertRaises(NoPlace) as caught:
                nth_miss(row, 1, number, graces=3)
            self.assertEqual(caught.exception.place, number)
        self.assertIsNone(nth_miss(row, 1, 10 ** 5000))

    def test_what_goes_first(self):
        for call in (misses_ahead, hits_at, nth_miss):
            self.assertRaises(NoRow, call, ["A"], 0, -1, graces=3, standing=3)
            self.assertRaises(NoDrawers, call, ["a"], 0, -1, graces=3, standing=3)
            self.assertRaises(NoPlace, call, ["a"], 1, -1, graces=3, standing=3)
            self.assertRaises(NoGraces, call, ["a"], 1, 0, graces=3, standing=3)
            self.assertRaises(NoStanding, call, ["a"], 1, 0, standing=3)
            self.assertRaises(NoStanding, call, ["a"], 1, 0, standing=[("b", 1)])
        self.assertRaises(NoGraces, behind_far, ["a"], 1, graces=3, standing=3)
        self.assertRaises(NoStanding, behind_far, ["a"], 1, standing=[("b", 1)])


class TestDepthAt(unittest.TestCase):
    def test_all_small_rows(self):
        for asks in oracle.all_rows(5):
            told = depths(asks)
            self.assertEqual([depth_at(asks, at) for at in range(len(asks))], told)

    def test_drawn(self):
        for chance, row, asks, _, _, _ in drawn(620, 200):
            told = depths(row)
            for _ in range(5):
                place = chance.randrange(len(asks))
                self.assertEqual(depth_at(row, place), told[place])

    def test_far(self):
        chance = oracle.chance_of(621)
        for row in FAR:
            many = asks_in(row)
            for place in [0, 1, many - 1, many - 2] + [chance.randrange(many) for _ in range(12)]:
                depth = depth_at(row, place)
                due = [drawers for drawers in range(1, 8) if not hits_at(row, drawers, place)]
                if depth is None:
                    self.assertEqual(due, list(range(1, 8)))
                else:
                    self.assertEqual(due, list(range(1, depth + 1)))

    def test_by_hand(self):
        self.assertIsNone(depth_at(FAR[0], 0))
        self.assertIsNone(depth_at(FAR[0], asks_in(FAR[0]) - 1))
        self.assertEqual(depth_at([(["a", "b"], MOST)], 2 * MOST - 1), 1)
        self.assertEqual(depth_at([(["a"], MOST)], MOST - 1), 0)
        names = oracle.some_names(60)
        self.assertEqual(depth_at([(names, MOST)], 60 * MOST - 1), 59)
        self.assertEqual(depth_at([(names, MOST), (names[::-1], MOST)], 60 * MOST), 0)
        self.assertEqual(depth_at([(names, MOST), (names[::-1], MOST)], 60 * MOST + 1), 1)

    def test_wrong(self):
        for place in (None, True, -1, 2, 10 ** 5000):
            self.assertRaises(NoPlace, depth_at, ["a", "a"], place)
            self.assertRaises(NoRow, depth_at, ["a", "A"], place)
        self.assertRaises(NoPlace, depth_at, [], 0)


class TestMissedFar(unittest.TestCase):
    def test_all_small_rows(self):
        for asks in oracle.all_rows(6):
            self.assertEqual(missed_far(asks), missed_by(asks))

    def test_drawn(self):
        for _, row, _, _, _, _ in drawn(630, 300):
            self.assertEqual(missed_far(row), missed_by(row))

    def test_far(self):
        for row in FAR:
            told = missed_far(row)
            self.assertEqual(told[0][0], 1)
            self.assertEqual(told[-1][1], len(often(row)))
            for one, other in zip(told, told[1:]):
                self.assertLess(one[0], other[0])
                self.assertGreater(one[1], other[1])
            for drawers in list(range(1, 8)) + [MOST]:
                due = [many for least, many in told if least <= drawers][-1]
                self.assertEqual(behind_far(row, drawers)[1], due)

    def test_by_hand(self):
        self.assertEqual(missed_far([]), [(1, 0)])
        self.assertEqual(missed_far(()), [(1, 0)])
        self.assertEqual(missed_far([(["a"], MOST)]), [(1, 1)])
        self.assertEqual(missed_far([(["a", "b"], MOST)]), [(1, 2 * MOST), (2, 2)])
        names = oracle.some_names(60)
        self.assertEqual(missed_far([(names, MOST)]), [(1, 60 * MOST), (60, 60)])
        self.assertRaises(NoRow, missed_far, None)


class TestStands(unittest.TestCase):
    def test_drawn(self):
        for _, row, asks, drawers, _, _ in drawn(640, 250, 150):
            told = rounds_of(asks, drawers)
            self.assertEqual(told[-1], told[-2])
            least = min(turn for turn in range(20) if all(one == told[-1] for one in told[turn:]))
            self.assertEqual(stands(row, drawers), (least, len(told[-1])))

    def test_all_small_rounds(self):
        for asks in oracle.all_rows(6):
            for drawers in (1, 2, 3):
                if asks:
                    told = rounds_of(asks, drawers, 12)
                    least = min(turn for turn in range(12) if all(one == told[-1] for one in told[turn:]))
                    self.assertEqual(stands(asks, drawers), (least, len(told[-1])))

    def test_a_place_that_once_hits_hits_in_all_later_rounds(self):
        for _, _, asks, drawers, _, _ in drawn(641, 100, 60):
            told = rounds_of(asks, drawers)
            for one, other in zip(told, told[1:]):
                self.assertLessEqual(set(other), set(one))

    def test_far(self):
        for row in FAR:
            for drawers in (1, 2, 3, 4, 5, MOST):
                rounds, many = stands(row, drawers)
                told = [behind_far([(row, turn)] if turn else [], drawers)[1] for turn in range(rounds + 4)]
                steps = [other - one for one, other in zip(told, told[1:])]
                self.assertEqual(steps[rounds:], [many] * 3)
                if rounds:
                    self.assertGreater(steps[rounds - 1], many)

    def test_by_hand(self):
        self.assertEqual(stands(["a"], 1), (1, 0))
        self.assertEqual(stands(["a", "b"], 1), (0, 2))
        self.assertEqual(stands(["a", "b"], 2), (1, 0))
        self.assertEqual(stands([(["a", "b"], MOST)], 1), (0, 2 * MOST))
        self.assertEqual(stands([(["a", "b"], MOST), "c"], 2), (1, 0))
        self.assertEqual(stands([(["a", "b", "c"], MOST), "d"], 2), (0, 3 * MOST + 1))
        self.assertEqual(stands([(["a", "b"], MOST), "c"], MOST), (1, 0))

    def test_wrong(self):
        for row in (None, [], (), ["A"], "a", [([], 2)]):
            self.assertRaises(NoRow, stands, row, 0)
            self.assertRaises(NoRow, depth_at_last, row, -1)
        for drawers in (0, -1, None, True, MOST + 1):
            self.assertRaises(NoDrawers, stands, ["a"], drawers)


class TestDepthAtLast(unittest.TestCase):
    def check(self, row, asks):
        told = [set(rounds_of(asks, drawers)[-1]) for drawers in range(1, len(set(asks)) + 2)]
        for place in range(len(asks)):
            missing = [drawers for drawers, one in enumerate(told, start=1) if place in one]
            self.assertEqual(missing, list(range(1, len(missing) + 1)))
            self.assertEqual(depth_at_last(row, place), len(missing))

    def test_all_small_rounds(self):
        for asks in oracle.all_rows(4):
            self.check(asks, asks)

    def test_drawn(self):
        for _, row, asks, _, _, _ in drawn(650, 60, 50):
            self.check(row, asks)

    def test_far(self):
        chance = oracle.chance_of(651)
        for row in FAR:
            many = asks_in(row)
            for place in [0, many - 1] + [chance.randrange(many) for _ in range(8)]:
                depth = depth_at_last(row, place)
                for drawers in range(1, 8):
                    rounds, _ = stands(row, drawers)
                    far = [(row, rounds + 5)]
                    self.assertIs(hits_at(far, drawers, (rounds + 4) * many + place), drawers > depth)

    def test_by_hand(self):
        self.assertEqual(depth_at_last(["a"], 0), 0)
        self.assertEqual([depth_at_last(["a", "b", "c"], at) for at in range(3)], [2, 2, 2])
        self.assertEqual([depth_at_last(["a", "a", "b"], at) for at in range(3)], [1, 0, 1])
        names = oracle.some_names(60)
        self.assertEqual(depth_at_last([(names, MOST)], 10 ** 31), 59)

    def test_wrong(self):
        for place in (None, True, -1, 2 * MOST, 10 ** 5000):
            with self.assertRaises(NoPlace) as caught:
                depth_at_last([(["a", "b"], MOST)], place)
            self.assertEqual(caught.exception.place, place)


class TestSoonTold(unittest.TestCase):
    def great(self, chance, names, deep, parts):
        row = []
        while parts > 0:
            if deep and parts > 3 and chance.random() < 0.15:
                within = chance.randint(2, min(parts - 1, 80))
                row.append((self.great(chance, names, deep - 1, within), MOST))
                parts -= within + 1
            else:
                row.append(chance.choice(names))
                parts -= 1
        return row

    def test_great_rows(self):
        chance = oracle.chance_of(660)
        names = oracle.some_names(60)
        began = time.process_time()
        graces = {name: chance.choice((0, 1, -3, 10 ** 29, 10 ** 29 - at, 3 - MOST)) for at, name in enumerate(names)}
        for _ in range(10):
            row = self.great(chance, names, 4, 400)
            many = asks_in(row)
            self.assertGreater(many, MOST)
            missed = missed_far(row)
            self.assertEqual(missed[-1][1], len(often(row)))
            for drawers in (1, 7, 40, MOST):
                _, told = behind_far(row, drawers, graces=graces)
                place = nth_miss(row, drawers, told // 2, graces=graces)
                self.assertEqual(misses_ahead(row, drawers, place, graces=graces), told // 2)
                stands(row, drawers)
            place = many // 3
            depth = depth_at(row, place)
            self.assertIs(hits_at(row, depth + 1, place), True)
            self.assertIn(ask_at(row, place), names)
            self.assertLessEqual(depth_at_last(row, place), 59)
        self.assertLess(time.process_time() - began, 30)


if __name__ == "__main__":
    unittest.main()
