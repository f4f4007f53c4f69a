"""Stage 1: rows, points 6 to 11."""

import time
import unittest

import oracle
from missclock.errors import NoPlace, NoRow, NoThing, TooMany
from missclock.rows import (ask_at, asked_ahead, asked_before, asks_in, halves, is_row, is_thing,
                            last_of, near, often, so_manieth, things_of)

MOST = 10 ** 30

# Four agains within one another, each said as often as may be.
FAR = ["x", ([(["a", (["b", (["c", "a"], MOST)], MOST)], MOST), "d"], MOST), "y"]
INNERMOST = 2 * MOST
THIRD = (1 + INNERMOST) * MOST
SECOND = (1 + THIRD) * MOST
FIRST = (SECOND + 1) * MOST

NO_ROWS = (None, True, 0, 3, 2.5, "a", "", "abc", b"a", {}, {"a": 1}, {"a"}, object(), [1], [None],
           ["A"], [""], ["abcdefghi"], ["a b"], ["a", 3], ("a", 3), ["a", ["b"]], ["a", ("b",)],
           [["a"]], [(["a"], 0)], [(["a"], -1)], [(["a"], MOST + 1)], [(["a"], True)],
           [(["a"], 2.0)], [(["a"], "2")], [(["a"], None)], [([], 2)], [((), 2)], [("a", 2)],
           [(["a"],)], [(["a"], 2, 3)], [[["a"], 2]], (["a"], 2), [([(["a", 1], 2)], 2)],
           [({"a": 1}, 2)], [((["a"], 2), 2)], [(["a", None], 2)], [b"a"], ["a\n"], ["\xe9"])

NO_PLACES = (-1, True, False, None, "0", 1.0, 0.0, [], [0], (0,), b"0")
NO_THINGS = (None, True, 0, "", "A", "abcdefghi", "a b", "a1", ["a"], ("a",), b"a", 2.5, {"a": 1})


class TestForms(unittest.TestCase):
    def test_things(self):
        for thing in ("a", "z", "abcdefgh", "qqqqqqqq"):
            self.assertIs(is_thing(thing), True)
        for thing in NO_THINGS + ("Ab", "aB", "\xe9", "a\n", "-", "a-b", " a", "\u0430", {"a"},
                                  object(), "a" * 10 ** 6, "{", "`", "\xdf"):
            self.assertIs(is_thing(thing), False)

    def test_rows(self):
        for row in ([], (), ["a"], ("a",), ["a", "a"], [(["a"], 1)], [(("a",), MOST)],
                    ("a", (["b"], 2)), [([(("a", "b"), 2)], 3)], FAR, tuple(FAR)):
            self.assertIs(is_row(row), True, row)

    def test_no_rows(self):
        for row in NO_ROWS:
            self.assertIs(is_row(row), False, row)

    def test_rows_however_great(self):
        deep = ["a"]
        for _ in range(50000):
            deep = [(deep, MOST)]
        self.assertIs(is_row(deep), True)
        self.assertIs(is_row(deep + [3]), False)
        bad = [3]
        for _ in range(50000):
            bad = [(bad, 2)]
        self.assertIs(is_row(bad), False)
        wide = ["a", (["b"], 2)] * 50000
        self.assertIs(is_row(wide), True)
        self.assertIs(is_row(wide + ["A"]), False)
        many = [chr(97 + a) + chr(97 + b) for a in range(26) for b in range(26)]
        self.assertIs(is_row(many), True)

    def test_a_list_that_holds_itself_is_no_row(self):
        endless = []
        endless.append((endless, 1))
        self.assertIs(is_row(endless), False)
        endless.append((endless, 1))
        self.assertIs(is_row(endless), False)

    def test_no_row_goes_ahead_of_all(self):
        for row in NO_ROWS:
            for call in (asks_in, things_of, last_of, often, near):
                self.assertRaises(NoRow, call, row)
            for call in (ask_at, asked_before, halves):
                self.assertRaises(NoRow, call, row, None)
                self.assertRaises(NoRow, call, row, 0)
            for call in (asked_ahead, so_manieth):
                self.assertRaises(NoRow, call, row, None, None)
                self.assertRaises(NoRow, call, row, "a", 0)


class TestAgainstLaidOut(unittest.TestCase):
    """Whatever is told of a short row is what its asks, one by one, tell."""

    def rows(self):
        chance = oracle.chance_of(6)
        return [[]] + [oracle.some_row(chance, "abcd") for _ in range(150)]

    def test_asks(self):
        for row in self.rows():
            asks = oracle.lay(row)
            self.assertEqual(asks_in(row), len(asks))
            self.assertEqual([ask_at(row, place) for place in range(len(asks))], asks)

    def test_things(self):
        for row in self.rows():
            asks = oracle.lay(row)
            first = list(dict.fromkeys(asks))
            self.assertEqual(things_of(row), first)
            self.assertEqual(last_of(row), list(dict.fromkeys(asks[::-1])))
            self.assertEqual(list(often(row).items()), [(one, asks.count(one)) for one in first])

    def test_asked(self):
        for row in self.rows()[:60]:
            asks = oracle.lay(row)
            for thing in "abcde":
                places = [at for at, one in enumerate(asks) if one == thing]
                for place in range(len(asks) + 1):
                    ahead = asked_ahead(row, thing, place)
                    self.assertEqual(ahead, len([at for at in places if at < place]))
                for number in range(len(places) + 2):
                    told = places[number] if number < len(places) else None
                    self.assertEqual(so_manieth(row, thing, number), told)

    def test_asked_before(self):
        for row in self.rows():
            asks = oracle.lay(row)
            for place in range(len(asks)):
                ahead = [at for at in range(place) if asks[at] == asks[place]]
                self.assertEqual(asked_before(row, place), ahead[-1] if ahead else None)

    def test_halves(self):
        for row in self.rows():
            asks = oracle.lay(row)
            for place in range(len(asks) + 1):
                one, other = halves(row, place)
                self.assertIs(is_row(one) and is_row(other) and is_row(one + other), True)
                self.assertEqual(oracle.lay(one), asks[:place])
                self.assertEqual(oracle.lay(other), asks[place:])

    def test_near(self):
        for row in self.rows():
            asks = oracle.lay(row)
            if len(asks) <= 400:
                self.assertEqual(near(row), asks)
            else:
                self.assertRaises(TooMany, near, row)


class TestFar(unittest.TestCase):
    def test_asks(self):
        self.assertEqual(asks_in(FAR), FIRST + 2)
        self.assertEqual(asks_in([(["a"], MOST)] * 400), 400 * MOST)
        self.assertEqual([ask_at(FAR, at) for at in range(5)], ["x", "a", "b", "c", "a"])
        self.assertEqual(ask_at(FAR, FIRST + 1), "y")
        self.assertEqual(ask_at(FAR, FIRST), "d")
        self.assertEqual(ask_at(FAR, SECOND + 1), "d")
        self.assertEqual(ask_at(FAR, 1 + 7 * (SECOND + 1) + INNERMOST), "c")
        self.assertEqual(ask_at(FAR, 1 + 7 * (SECOND + 1) + 1 + INNERMOST), "a")
        self.assertEqual(ask_at(FAR, 1 + 7 * (SECOND + 1) + 1 + 1 + INNERMOST), "b")

    def test_things(self):
        self.assertEqual(things_of(FAR), ["x", "a", "b", "c", "d", "y"])
        self.assertEqual(last_of(FAR), ["y", "d", "a", "c", "b", "x"])
        self.assertEqual(often(FAR), {
            "x": 1, "a": MOST ** 2 + MOST ** 4, "b": MOST ** 3, "c": MOST ** 4, "d": MOST, "y": 1})

    def test_asked(self):
        self.assertEqual(asked_ahead(FAR, "d", FIRST + 2), MOST)
        self.assertEqual(asked_ahead(FAR, "d", FIRST + 1), MOST)
        self.assertEqual(asked_ahead(FAR, "d", FIRST), MOST - 1)
        self.assertEqual(asked_ahead(FAR, "b", 1 + 5 * (SECOND + 1)), 5 * MOST ** 2)
        self.assertEqual(so_manieth(FAR, "d", MOST - 1), FIRST)
        self.assertEqual(so_manieth(FAR, "d", 0), 1 + SECOND)
        self.assertIsNone(so_manieth(FAR, "d", MOST))
        self.assertEqual(so_manieth(FAR, "b", 5 * MOST ** 2), 1 + 5 * (SECOND + 1) + 1)
        self.assertEqual(asked_before(FAR, FIRST), FIRST - SECOND - 1)
        self.assertIsNone(asked_before(FAR, FIRST + 1))

    def test_place_and_number_belong_together(self):
        chance = oracle.chance_of(7)
        for _ in range(200):
            place = chance.randrange(FIRST + 2)
            thing = ask_at(FAR, place)
            number = asked_ahead(FAR, thing, place)
            self.assertEqual(so_manieth(FAR, thing, number), place)
            before = asked_before(FAR, place)
            if number:
                self.assertEqual(before, so_manieth(FAR, thing, number - 1))
            self.assertEqual(asked_ahead(FAR, thing, place + 1), number + 1)

    def test_halves(self):
        chance = oracle.chance_of(8)
        for place in [0, 1, FIRST, FIRST + 1, FIRST + 2] + [chance.randrange(FIRST) for _ in range(50)]:
            one, other = halves(FAR, place)
            self.assertEqual((asks_in(one), asks_in(other)), (place, FIRST + 2 - place))
            both = one + other
            self.assertIs(is_row(both), True)
            for at in [0, FIRST + 1] + [chance.randrange(FIRST) for _ in range(5)]:
                self.assertEqual(ask_at(both, at), ask_at(FAR, at))
            self.assertEqual(often(both), often(FAR))

    def test_numbers_of_any_size(self):
        for great in (10 ** 200, 10 ** 5000):
            self.assertRaises(NoPlace, ask_at, FAR, great)
            self.assertRaises(NoPlace, asked_before, FAR, great)
            self.assertRaises(NoPlace, halves, FAR, great)
            self.assertRaises(NoPlace, asked_ahead, FAR, "a", great)
            self.assertIsNone(so_manieth(FAR, "a", great))
            self.assertRaises(NoPlace, so_manieth, FAR, "a", -great)

    def test_four_hundred_parts_are_soon_told(self):
        row = ["a"]
        for _ in range(4):
            row = [(row + ["b", "c"] * 49, MOST)]
        began = time.process_time()
        many = asks_in(row)
        for place in range(0, many, many // 50):
            asked_before(row, place)
            halves(row, place)
        self.assertLess(time.process_time() - began, 5)


class TestTold(unittest.TestCase):
    def lists_of(self, row):
        told = [row]
        for part in row:
            if not isinstance(part, str):
                told.extend(self.lists_of(part[0]))
        return told

    def test_told_rows_are_lists_that_share_nothing(self):
        inner = ("a", "b")
        row = ("c", (("e", (inner, 3), (inner, 2)), 4), (inner, 1))
        for place in range(asks_in(row) + 1):
            told = halves(row, place)
            self.assertIsInstance(told, tuple)
            lists = self.lists_of(told[0]) + self.lists_of(told[1])
            self.assertEqual(len({id(one) for one in lists}), len(lists))
            for one in lists:
                self.assertIs(type(one), list)

    def test_handed_in_lists_are_not_told(self):
        inner = ["a", "b"]
        row = [(inner, 3), "c"]
        one, other = halves(row, 4)
        again, _ = halves(row, 7)
        inner.append("z")
        row.append("z")
        self.assertEqual(oracle.lay(one + other), list("abababc"))
        self.assertEqual(oracle.lay(again), list("abababc"))

    def test_what_is_told_is_the_askers_own(self):
        row = ["a", (["b", "a"], 2)]
        for call in (things_of, last_of, near):
            told = call(row)
            self.assertIs(type(told), list)
            told.append("z")
            self.assertNotIn("z", call(row))
        told = often(row)
        self.assertIs(type(told), dict)
        told["z"] = 3
        self.assertNotIn("z", often(row))
        halves(row, 5)[0][1][0].append("z")
        self.assertEqual(row, ["a", (["b", "a"], 2)])


class TestRefused(unittest.TestCase):
    def place_of(self, call, *handed):
        with self.assertRaises(NoPlace) as caught:
            call(*handed)
        return caught.exception.place

    def test_places(self):
        row = ["a", (["b"], 3)]
        for place in NO_PLACES + (4, 5):
            self.assertEqual(self.place_of(ask_at, row, place), place)
            self.assertEqual(self.place_of(asked_before, row, place), place)
        for place in NO_PLACES + (5, 6):
            self.assertEqual(self.place_of(halves, row, place), place)
            self.assertEqual(self.place_of(asked_ahead, row, "a", place), place)
        for number in NO_PLACES:
            self.assertEqual(self.place_of(so_manieth, row, "a", number), number)
        self.assertEqual(asked_ahead(row, "b", 4), 3)
        self.assertEqual(halves(row, 4)[1], [])
        self.assertEqual(halves([], 0), ([], []))
        self.assertRaises(NoPlace, ask_at, [], 0)
        self.assertRaises(NoPlace, asked_before, [], 0)
        self.assertRaises(NoPlace, halves, [], 1)

    def test_things(self):
        for thing in NO_THINGS:
            for call in (asked_ahead, so_manieth):
                for last in (0, -1, None, True):
                    with self.assertRaises(NoThing) as caught:
                        call(["a"], thing, last)
                    self.assertEqual(caught.exception.thing, thing)
        self.assertEqual(asked_ahead(["a"], "never", 1), 0)
        self.assertIsNone(so_manieth(["a"], "never", 0))
        self.assertIsNone(so_manieth([], "a", 0))

    def test_near(self):
        self.assertEqual(near([]), [])
        self.assertEqual(near(["a"] * 400), ["a"] * 400)
        self.assertEqual(near([([(["a"], 20)], 20)]), ["a"] * 400)
        for row, many in ((["a"] * 401, 401), ([(["a", "b"], 200), "c"], 401), (FAR, FIRST + 2)):
            with self.assertRaises(TooMany) as caught:
                near(row)
            self.assertEqual(caught.exception.many, many)


if __name__ == "__main__":
    unittest.main()
