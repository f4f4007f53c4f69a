"""Stage 11: clerks that live, points 73 to 77."""

import copy
import time
import unittest

import oracle
from missclock.errors import (MissError, NoDrawers, NoGraces, NoHistory, NoRow, NoStanding, Nothing, NoThing)
from missclock.live import Clerk, Watch, clerk_of

MOST = 10 ** 30
LETTERS = "abcdef"

NO_THINGS = (None, 3, True, "", "A", "abcdefghi", ["a"], ("a",), {}, {"a"}, b"a", 1.0)
NO_ROWS = (None, "ab", 3, {"a": 1}, ["A"], [([], 1)], [(["a"], 0)], [["a"]], {"a"}, [(["a"], True)], [(["a"], MOST + 1)])
NO_DRAWERS = (0, -1, MOST + 1, True, None, "1", 1.0, [1])
NO_GRACES = (0, [], "a", {"A": 1}, {"a": None}, {"a": True}, {3: 1})
NO_STANDINGS = (3, (), {}, [None], [("a", 2), ("b", 1)], [("a", -1)], [("a", True)], [("a", 0), ("a", 0)], [["a", 0]])


def facts(clerk):
    """All that a clerk tells of itself."""
    return (clerk.drawers(), clerk.graces(), clerk.standing(), [clerk.age(thing) for thing in LETTERS + "z"],
            clerk.asked(), clerk.missed(), clerk.history(), len(clerk))


def facts_due(plain, deeds):
    ages = dict(plain.held)
    return (plain.drawers, plain.told_graces(), plain.held, [ages.get(thing) for thing in LETTERS + "z"],
            plain.asked, plain.missed, deeds, len(deeds))


def some_deed(chance, plain):
    """A deed that can be done."""
    kind = chance.choice(("ask", "ask", "ask", "row", "away", "more", "fewer", "grace"))
    if kind == "row":
        return ("row", list(oracle.some_row(chance, LETTERS, 2)))
    if kind == "away" and plain.held:
        return ("away", chance.choice(plain.held)[0])
    if kind == "more" or kind == "fewer" and plain.drawers > 1:
        return (kind,)
    if kind == "grace":
        return ("grace", chance.choice(LETTERS), chance.randint(-3, 3))
    return ("ask", chance.choice(LETTERS))


def done_plainly(plain, deed):
    """Another plain clerk on whom the deed was done, and what the deed tells."""
    after = plain.twin()
    told = None
    if deed[0] == "ask":
        told = after.hear([deed[1]])[0]
    elif deed[0] == "row":
        told = after.hear(oracle.lay(deed[1])).count(False)
    elif deed[0] == "away":
        after.put_away(deed[1])
    elif deed[0] == "grace":
        after.limited(after.drawers, deed[1], deed[2])
    else:
        after.limited(after.drawers + (1 if deed[0] == "more" else -1))
    return after, told


def do(clerk, deed):
    calls = {"ask": clerk.ask, "row": clerk.ask_row, "away": clerk.put_away, "more": clerk.more,
             "fewer": clerk.fewer, "grace": clerk.grace}
    return calls[deed[0]](*deed[1:])


def in_lists(row):
    """A row in lists."""
    return [part if isinstance(part, str) else (in_lists(part[0]), part[1]) for part in row]


def told_deeds(deeds):
    return [("row", in_lists(deed[1])) if deed[0] == "row" else deed for deed in deeds]


def some_start(chance):
    graces = oracle.some_graces(chance, LETTERS)
    drawers = chance.randint(1, 4)
    return drawers, graces, oracle.some_standing(chance, drawers, graces, LETTERS)


class TestDeeds(unittest.TestCase):
    def test_drawn_deeds_back_and_again(self):
        """After each deed, each back and each again, all that is told is as a plain clerk has it."""
        chance = oracle.chance_of(730)
        for _ in range(60):
            drawers, graces, standing = some_start(chance)
            clerk = Clerk(drawers, graces=graces, standing=standing)
            states = [oracle.PlainClerk(drawers, graces, standing)]
            deeds = []
            many = 0
            for _ in range(60):
                turn = chance.random()
                if turn < 0.2:
                    if many:
                        self.assertIsNone(clerk.back())
                        many -= 1
                    else:
                        self.assertRaises(Nothing, clerk.back)
                elif turn < 0.35:
                    if many < len(deeds):
                        self.assertIsNone(clerk.again())
                        many += 1
                    else:
                        self.assertRaises(Nothing, clerk.again)
                else:
                    deed = some_deed(chance, states[many])
                    after, told = done_plainly(states[many], deed)
                    self.assertIs(type(do(clerk, deed)), type(told))
                    clerk.back()
                    self.assertEqual(do(clerk, deed), told)
                    states, deeds = states[:many + 1] + [after], deeds[:many] + [deed]
                    many += 1
                self.assertEqual(facts(clerk), facts_due(states[many], told_deeds(deeds[:many])))

    def test_asks_told_by_the_rows_of_stage_two(self):
        for asks in oracle.all_rows(5):
            clerk = Clerk(2, graces={"a": 1}, standing=[("b", 0), ("z", 1)])
            hits, _, left = oracle.in_ages(asks, 2, {"a": 1}, [("b", 0), ("z", 1)])
            self.assertEqual([clerk.ask(thing) for thing in asks], hits)
            self.assertEqual((clerk.standing(), clerk.missed(), clerk.asked()), (left, hits.count(False), len(asks)))
            row = Clerk(2, graces={"a": 1}, standing=[("b", 0), ("z", 1)])
            self.assertEqual(row.ask_row(asks), hits.count(False))
            self.assertEqual(row, clerk)

    def test_far_rows(self):
        clerk = Clerk(1, graces={"x": 10 ** 29})
        clerk.ask("x")
        far = [(["a", (["b", "c"], 10 ** 20)], 10 ** 8)]
        self.assertEqual(clerk.ask_row(far), 2 * 10 ** 28 + 10 ** 8)
        self.assertEqual(clerk.age("x"), 2 * 10 ** 28 + 10 ** 8)
        self.assertEqual(clerk.standing(), [("c", 0), ("x", 2 * 10 ** 28 + 10 ** 8)])
        self.assertEqual(clerk.ask_row([(far, MOST)]), MOST * (2 * 10 ** 28 + 10 ** 8))
        self.assertIsNone(clerk.age("x"))
        self.assertEqual(clerk.asked(), 1 + (MOST + 1) * (2 * 10 ** 28 + 10 ** 8))
        self.assertEqual(clerk.missed(), clerk.asked())
        clerk.back()
        self.assertEqual(clerk.age("x"), 2 * 10 ** 28 + 10 ** 8)
        self.assertIs(clerk.ask("x"), True)
        self.assertEqual(clerk.ask_row([]), 0)
        self.assertEqual(clerk.history()[-2:], [("ask", "x"), ("row", [])])

    def test_put_away(self):
        clerk = Clerk(3)
        clerk.ask_row(["a", "b"])
        self.assertIsNone(clerk.put_away("a"))
        self.assertEqual(clerk.standing(), [("b", 0)])
        self.assertEqual((clerk.asked(), clerk.missed()), (2, 2))
        self.assertRaises(NoThing, clerk.put_away, "a")
        self.assertIs(clerk.ask("a"), False)

    def test_more_and_fewer(self):
        clerk = Clerk(2)
        clerk.ask_row(["a", "b"])
        self.assertEqual(clerk.standing(), [("b", 0), ("a", 1)])
        self.assertIsNone(clerk.fewer())
        self.assertEqual((clerk.drawers(), clerk.standing()), (1, [("b", 0)]))
        # What is gone stays gone.
        self.assertIsNone(clerk.more())
        self.assertEqual((clerk.drawers(), clerk.standing(), clerk.missed()), (2, [("b", 0)], 2))
        self.assertIs(clerk.ask("a"), False)
        clerk = Clerk(1)
        clerk.ask_row(["a", "b"])
        clerk.more()
        self.assertEqual(clerk.standing(), [("b", 0)])
        self.assertIs(clerk.ask("b"), True)
        self.assertIs(clerk.ask("c"), False)
        self.assertIs(clerk.ask("b"), True)

    def test_drawers_end(self):
        clerk = Clerk(MOST)
        self.assertRaises(NoDrawers, clerk.more)
        clerk.fewer()
        clerk.more()
        self.assertEqual(clerk.drawers(), MOST)
        one = Clerk(1)
        self.assertRaises(NoDrawers, one.fewer)
        self.assertEqual((len(one), one.drawers()), (0, 1))

    def test_grace(self):
        clerk = Clerk(2)
        clerk.ask_row(["a", "b"])
        self.assertIsNone(clerk.grace("a", -1))
        self.assertEqual((clerk.standing(), clerk.graces()), ([("b", 0)], {"a": -1}))
        # What is gone stays gone, and by no grace above is it there again.
        clerk.grace("a", 5)
        self.assertEqual((clerk.standing(), clerk.age("a")), ([("b", 0)], None))
        self.assertIs(clerk.ask("a"), False)
        clerk.grace("b", -2)
        self.assertEqual(clerk.standing(), [("a", 0)])
        self.assertIs(clerk.ask("b"), False)
        self.assertEqual(clerk.standing(), [("a", 1)])
        clerk.grace("a", 0)
        clerk.grace("c", 10 ** 29)
        clerk.grace("b", 3)
        self.assertEqual(list(clerk.graces().items()), [("b", 3), ("c", 10 ** 29)])
        self.assertEqual(clerk.standing(), [("a", 1)])
        # Of a thing that came to its limit by misses, too.
        clerk = Clerk(1)
        clerk.ask_row(["a", "b"])
        clerk.grace("a", 9)
        self.assertEqual(clerk.standing(), [("b", 0)])

    def test_graces_are_told_without_those_that_are_0(self):
        clerk = Clerk(2, graces={"b": 0, "c": 1, "a": -1})
        self.assertEqual(list(clerk.graces().items()), [("a", -1), ("c", 1)])
        self.assertEqual(clerk, Clerk(2, graces={"a": -1, "c": 1}))

    def test_three_hundred_deeds(self):
        began = time.process_time()
        chance = oracle.chance_of(731)
        names = oracle.some_names(60)
        clerk = Clerk(20)
        far = [([(names, MOST), "z"], MOST)]
        for at in range(300):
            do(clerk, ("row", far) if at % 10 == 0 else ("ask", chance.choice(names)))
        self.assertEqual(len(clerk), 300)
        self.assertEqual(len(clerk.history()), 300)
        again = clerk_of(20, clerk.history())
        self.assertEqual(again, clerk)
        self.assertEqual((again.asked(), again.missed()), (clerk.asked(), clerk.missed()))
        for _ in range(300):
            clerk.back()
        self.assertEqual(facts(clerk)[:3], (20, {}, []))
        for _ in range(300):
            clerk.again()
        self.assertEqual(again, clerk)
        self.assertLess(time.process_time() - began, 20)


class TestTaken(unittest.TestCase):
    def test_a_new_deed_leaves_nothing_to_be_done_again(self):
        clerk = Clerk(2)
        clerk.ask_row(["a", "b", "a"])
        clerk.ask("c")
        clerk.back()
        clerk.back()
        clerk.again()
        clerk.ask("d")
        self.assertRaises(Nothing, clerk.again)
        self.assertEqual(clerk.history(), [("row", ["a", "b", "a"]), ("ask", "d")])

    def test_a_refused_one_leaves_all(self):
        clerk = Clerk(1, standing=[("a", 0)])
        clerk.ask("b")
        clerk.ask("c")
        clerk.back()
        wrong = ((clerk.ask, "A"), (clerk.ask_row, ["A"]), (clerk.put_away, "a"), (clerk.fewer,),
                 (clerk.grace, "A", 1), (clerk.grace, "a", None), (clerk.age, "A"))
        kept = facts(clerk)
        for call, *handed in wrong:
            self.assertRaises(MissError, call, *handed)
            self.assertEqual(facts(clerk), kept)
        clerk.again()
        self.assertEqual(clerk.history(), [("ask", "b"), ("ask", "c")])
        self.assertRaises(Nothing, clerk.again)
        clerk.back()
        clerk.back()
        self.assertRaises(Nothing, clerk.back)
        self.assertEqual(clerk.standing(), [("a", 0)])
        clerk.again()
        self.assertEqual(clerk.history(), [("ask", "b")])

    def test_twins(self):
        chance = oracle.chance_of(760)
        for _ in range(60):
            drawers, graces, standing = some_start(chance)
            clerk = Clerk(drawers, graces=graces, standing=standing)
            plain = oracle.PlainClerk(drawers, graces, standing)
            for _ in range(10):
                deed = some_deed(chance, plain)
                plain, _ = done_plainly(plain, deed)
                do(clerk, deed)
            for _ in range(chance.randint(0, 6)):
                clerk.back()
            twin = clerk.twin()
            self.assertEqual(facts(twin), facts(clerk))
            self.assertEqual(twin, clerk)
            # All that was taken back is there, and neither knows of the other.
            kept = facts(clerk)
            while True:
                try:
                    twin.again()
                except Nothing:
                    break
            self.assertEqual(len(twin), 10)
            self.assertEqual(twin.missed(), plain.missed)
            self.assertEqual(facts(clerk), kept)
            other = facts(twin)
            clerk.ask("z")
            self.assertEqual(facts(twin), other)
            for _ in range(10):
                twin.back()
            self.assertEqual(twin, Clerk(drawers, graces=graces, standing=standing))
            self.assertEqual(clerk.history()[-1], ("ask", "z"))

    def test_equal(self):
        clerk = Clerk(2, standing=[("a", 0), ("b", 0)])
        other = Clerk(2)
        other.ask_row(["b", "c", "a", "b"])
        self.assertNotEqual(clerk, other)
        self.assertEqual(clerk, Clerk(2, standing=[("a", 0), ("b", 0)], graces={"c": 0}))
        self.assertNotEqual(clerk, Clerk(2, standing=[("b", 0), ("a", 0)]))
        self.assertNotEqual(clerk, Clerk(2, standing=[("a", 0), ("b", 1)]))
        self.assertNotEqual(clerk, Clerk(3, standing=[("a", 0), ("b", 0)]))
        self.assertNotEqual(clerk, Clerk(2, standing=[("a", 0), ("b", 0)], graces={"c": 1}))
        for thing in (None, 2, "a", [], {}, (2, {}, [("a", 0), ("b", 0)]), Watch(), object(), Clerk):
            self.assertIs(clerk == thing, False)
            self.assertIs(clerk != thing, True)
        # Neither the deeds nor the numbers of asks and misses hang anything.
        long = Clerk(2)
        long.ask_row(["x", "y", "b", "a", "b", "a"])
        self.assertEqual(long.standing(), [("a", 0), ("b", 0)])
        self.assertIs(clerk == long, True)
        self.assertIs(clerk != long, False)


class TestHistory(unittest.TestCase):
    def test_told_anew_by_a_history(self):
        chance = oracle.chance_of(770)
        for _ in range(100):
            drawers, graces, standing = some_start(chance)
            plain = oracle.PlainClerk(drawers, graces, standing)
            deeds = []
            for _ in range(12):
                deeds.append(some_deed(chance, plain))
                plain, _ = done_plainly(plain, deeds[-1])
            clerk = clerk_of(drawers, deeds, graces=graces, standing=standing)
            self.assertEqual(facts(clerk), facts_due(plain, told_deeds(deeds)))
            for _ in deeds:
                clerk.back()
            self.assertEqual(facts(clerk), facts(Clerk(drawers, graces=graces, standing=standing)))

    def test_deeds_that_can_be_done_so(self):
        held = ("ask", "a")
        good = ([], [held], [("row", [])], [("row", ())], [("row", [(("a",), 3)])],
                [held, ("away", "a")], [("more",)], [("more",), ("fewer",)], [("grace", "a", -3)], [("grace", "a", 0)])
        for history in good:
            self.assertEqual(len(clerk_of(1, history)), len(history))
        self.assertEqual(clerk_of(1, [("row", ("a", (("b",), 2)))]).history(), [("row", ["a", (["b"], 2)])])

    def test_no_history(self):
        held = ("ask", "a")
        wrong = [None, 3, True, "", "ask a", (), (held,), {}, {held: 1}, {held}, [None], ["ask"], [()], [["ask", "a"]],
                 [("ask",)], [("ask", "A")], [("ask", ["a"])], [("ask", "a", "b")], [("row",)], [("row", "a")],
                 [("row", ["A"])], [("row", [(["a"], 0)])], [("row", ["a"], 1)], [("away",)], [("away", "a")],
                 [held, ("away", "b")], [held, ("away", None)], [("more", 1)], [("fewer", 1)], [("fewer",)],
                 [("more",), ("fewer",), ("fewer",)], [("grace", "a")], [("grace", "a", None)], [("grace", "a", True)],
                 [("grace", "A", 1)], [("grace", "a", "1")], [("grace", 1, "a")], [("grace", "a", 1, 1)], [("back",)],
                 [("again",)], [("Ask", "a")], [(None, "a")], [(["ask"], "a")], [held, held, ("ask", None)], [("put", "a")],
                 [held, ("grace", "a", -1), ("away", "a")], [("row", {"a": 1})], [(3,)], [((), ())]]
        for history in wrong:
            self.assertRaises(NoHistory, clerk_of, 1, history)
        self.assertRaises(NoHistory, clerk_of, MOST, [("more",)])

    def test_what_goes_first(self):
        for drawers in NO_DRAWERS:
            self.assertRaises(NoDrawers, clerk_of, drawers, None, graces=3, standing=3)
            self.assertRaises(NoDrawers, Clerk, drawers, graces=3, standing=3)
        for graces in NO_GRACES:
            self.assertRaises(NoGraces, clerk_of, 2, None, graces=graces, standing=3)
            self.assertRaises(NoGraces, Clerk, 2, graces=graces, standing=3)
        for standing in NO_STANDINGS:
            self.assertRaises(NoStanding, clerk_of, 2, None, standing=standing)
            self.assertRaises(NoStanding, Clerk, 2, standing=standing)
        self.assertRaises(NoStanding, Clerk, 2, standing=[("a", 2)])
        self.assertRaises(NoStanding, Clerk, 2, standing=[("a", 1)], graces={"a": -1})
        self.assertEqual(Clerk(2, standing=[("a", 2)], graces={"a": 1}).age("a"), 2)
        self.assertRaises(NoHistory, clerk_of, 2, None)
        self.assertEqual(Clerk(2, graces=None, standing=None), Clerk(2))


class TestRefused(unittest.TestCase):
    def test_no_thing(self):
        clerk = Clerk(2, standing=[("a", 1)])
        for thing in NO_THINGS:
            for call in (clerk.ask, clerk.put_away, clerk.age, lambda one: clerk.grace(one, None)):
                with self.assertRaises(NoThing) as caught:
                    call(thing)
                self.assertEqual(caught.exception.thing, thing)
        with self.assertRaises(NoThing) as caught:
            clerk.put_away("b")
        self.assertEqual(caught.exception.thing, "b")
        self.assertIsNone(clerk.age("b"))
        self.assertEqual(len(clerk), 0)

    def test_no_row_and_no_grace(self):
        clerk = Clerk(2)
        for row in NO_ROWS:
            self.assertRaises(NoRow, clerk.ask_row, row)
        for by in (None, True, False, "1", 1.0, [1]):
            self.assertRaises(NoGraces, clerk.grace, "a", by)
        clerk.grace("a", -10 ** 29)
        self.assertEqual(clerk.graces(), {"a": -10 ** 29})


class TestApart(unittest.TestCase):
    def test_what_is_handed_in_is_kept_as_a_copy(self):
        graces, standing, row = {"a": 1}, [("a", 2)], ["a", (["b"], 2)]
        history = [("row", row)]
        before = copy.deepcopy((graces, standing, history))
        clerk = Clerk(2, graces=graces, standing=standing)
        clerk.ask_row(row)
        other = clerk_of(2, history, graces=graces, standing=standing)
        self.assertEqual((graces, standing, history), before)
        kept = facts(clerk)
        graces["a"] = -5
        standing.append(("z", 2))
        row[1][0].append("z")
        row.append("z")
        history.append(("more",))
        self.assertEqual(facts(clerk), kept)
        self.assertEqual(facts(other), kept)
        clerk.back()
        self.assertEqual(clerk.standing(), [("a", 2)])
        clerk.again()
        self.assertEqual(facts(clerk), kept)

    def test_what_is_told_is_the_askers_own(self):
        clerk = Clerk(2, graces={"a": 1}, standing=[("a", 2)])
        clerk.ask_row(["b", (["c"], 2)])
        kept = copy.deepcopy(facts(clerk))
        for _ in range(2):
            clerk.graces()["b"] = 7
            clerk.standing().append(("q", 1))
            told = clerk.history()
            told[0][1][1][0].append("z")
            told[0][1].append("z")
            told.append(("more",))
            self.assertEqual(facts(clerk), kept)
        self.assertEqual(facts(clerk.twin()), kept)

    def test_what_was_told_stays(self):
        clerk = Clerk(2)
        clerk.ask("a")
        told = (clerk.standing(), clerk.graces(), clerk.history())
        clerk.grace("b", 2)
        clerk.ask("b")
        self.assertEqual(told, ([("a", 0)], {}, [("ask", "a")]))


if __name__ == "__main__":
    unittest.main()
