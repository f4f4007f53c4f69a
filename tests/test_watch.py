"""Stage 11: a Watch of clerks, points 78 to 80."""

import itertools
import time
import unittest

import oracle
from missclock.errors import MissError, NoName, NoRow, Nothing, NoThing, Taken, TooMany
from missclock.live import Clerk, Watch
from test_live import NO_ROWS, NO_THINGS, facts, some_start

MOST = 10 ** 30
NAMES = ("b", "ask", "abcdefgh", "zz", "aa")


def all_of(watch):
    """All that a Watch tells of itself."""
    return watch.names(), [facts(watch.clerk(name)) for name in watch.names()], watch.overs()


def plainly_over(one, other):
    """Point 79 word by word, of two plain clerks; z stands for all things that nobody named."""
    ages = dict(one.held)
    if any(thing not in ages or ages[thing] > age for thing, age in other.held):
        return False
    named = set("z") | set(one.graces) | set(other.graces)
    return all(one.drawers + one.graces.get(thing, 0) >= other.drawers + other.graces.get(thing, 0)
               for thing in named)


class TestDeeds(unittest.TestCase):
    def test_drawn_deeds_and_back(self):
        """After each deed, and each one undone, all is told as plain clerks have it."""
        chance = oracle.chance_of(780)
        for _ in range(40):
            watch = Watch()
            states = [{}]
            for _ in range(40):
                plain = {name: clerk.twin() for name, clerk in states[-1].items()}
                turn = chance.random()
                name = chance.choice(NAMES)
                if turn < 0.15 and len(states) > 1:
                    self.assertIsNone(watch.back())
                    plain = states[-2]
                    states = states[:-2]
                elif turn < 0.4 and name not in plain:
                    drawers, graces, standing = some_start(chance)
                    self.assertIsNone(watch.add(name, Clerk(drawers, graces=graces, standing=standing)))
                    plain[name] = oracle.PlainClerk(drawers, graces, standing)
                elif turn < 0.5 and name in plain:
                    self.assertIsNone(watch.leave(name))
                    del plain[name]
                elif turn < 0.8:
                    thing = chance.choice("abcdef")
                    missed = [one for one in sorted(plain) if not plain[one].hear([thing])[0]]
                    self.assertEqual(watch.ask(thing), missed)
                else:
                    row = oracle.some_row(chance, "abcdef", 2)
                    missed = {one: plain[one].hear(oracle.lay(row)).count(False) for one in sorted(plain)}
                    self.assertEqual(list(watch.ask_row(row).items()), list(missed.items()))
                states.append(plain)
                self.check(watch, plain)

    def check(self, watch, plain):
        self.assertEqual(watch.names(), sorted(plain))
        for name in plain:
            clerk = watch.clerk(name)
            self.assertEqual((clerk.drawers(), clerk.graces(), clerk.standing(), clerk.asked(), clerk.missed()),
                             (plain[name].drawers, plain[name].told_graces(), plain[name].held, plain[name].asked,
                              plain[name].missed))
        over = [(one, other) for one in sorted(plain) for other in sorted(plain)
                if plainly_over(plain[one], plain[other])]
        self.assertEqual([pair for pair in over if pair[0] != pair[1]], watch.overs())
        for one, other in itertools.product(plain, repeat=2):
            self.assertIs(watch.is_over(one, other), (one, other) in over)
            held = {thing for thing, _ in plain[one].held}
            self.assertEqual(watch.lacking(one, other),
                             sorted(thing for thing, _ in plain[other].held if thing not in held))

    def test_a_twin_comes_and_a_twin_is_told(self):
        clerk = Clerk(2)
        clerk.ask("a")
        clerk.ask("b")
        clerk.back()
        watch = Watch()
        watch.add("one", clerk)
        clerk.ask("c")
        told = watch.clerk("one")
        self.assertEqual(told.history(), [("ask", "a")])
        told.again()
        self.assertEqual(told.history(), [("ask", "a"), ("ask", "b")])
        told.ask("z")
        self.assertEqual(watch.clerk("one").history(), [("ask", "a")])
        self.assertEqual(watch.ask("a"), [])
        self.assertEqual(clerk.history(), [("ask", "a"), ("ask", "c")])
        self.assertEqual(watch.clerk("one").history(), [("ask", "a"), ("ask", "a")])
        self.assertEqual(watch.clerk("one").asked(), 2)

    def test_back_undoes_each_deed_alike(self):
        clerk = Clerk(2)
        clerk.ask("a")
        clerk.ask("b")
        clerk.back()
        watch = Watch()
        self.assertRaises(Nothing, watch.back)
        watch.add("one", clerk)
        watch.add("two", Clerk(1))
        for deed in (lambda: watch.ask("q"), lambda: watch.ask_row(["q", "a"]), lambda: watch.ask_row([]),
                     lambda: watch.leave("one"), lambda: watch.add("three", Clerk(3))):
            kept = all_of(watch)
            deed()
            watch.back()
            self.assertEqual(all_of(watch), kept)
            # Also in what its clerks had taken back.
            told = watch.clerk("one")
            told.again()
            self.assertEqual(told.history(), [("ask", "a"), ("ask", "b")])
        watch.back()
        self.assertEqual(watch.names(), ["one"])
        watch.back()
        self.assertEqual(watch.names(), [])
        self.assertRaises(Nothing, watch.back)

    def test_nobody_hears(self):
        watch = Watch()
        self.assertEqual((watch.ask("a"), watch.ask_row(["a"]), watch.names(), watch.overs()), ([], {}, [], []))
        watch.back()
        watch.back()
        self.assertRaises(Nothing, watch.back)
        self.assertRaises(NoThing, watch.ask, "A")
        self.assertRaises(NoRow, watch.ask_row, ["A"])

    def test_twelve_clerks_and_three_hundred_deeds(self):
        chance = oracle.chance_of(781)
        names = oracle.some_names(60)
        watch = Watch()
        for at in range(12):
            watch.add(names[at], Clerk(at + 1))
        began = time.process_time()
        missed = {name: 0 for name in names[:12]}
        for at in range(288):
            if at % 20 == 0:
                told = watch.ask_row([(names, MOST)])
                missed = {name: missed[name] + told[name] for name in missed}
            else:
                for name in watch.ask(chance.choice(names)):
                    missed[name] += 1
        for name in missed:
            self.assertEqual(watch.clerk(name).missed(), missed[name])
        self.assertEqual(len(watch.overs()), 66)
        for _ in range(288):
            watch.back()
        self.assertEqual([watch.clerk(name).missed() for name in names[:12]], [0] * 12)
        self.assertLess(time.process_time() - began, 20)


class TestOver(unittest.TestCase):
    def test_it_is_so_for_ever(self):
        chance = oracle.chance_of(790)
        seen = 0
        for _ in range(150):
            watch = Watch()
            for name in NAMES:
                drawers, graces, standing = some_start(chance)
                if chance.random() < 0.6:
                    graces, standing = {"a": 1}, [(thing, age) for thing, age in standing if age < drawers][:1]
                    standing = [(thing, 0) for thing, _ in standing]
                watch.add(name, Clerk(drawers, graces=graces, standing=standing))
            before = watch.overs()
            seen += len(before)
            for _ in range(8):
                missed = watch.ask(chance.choice("abcdefgh"))
                for one, other in before:
                    self.assertFalse(one in missed and other not in missed)
                self.assertLessEqual(set(before), set(watch.overs()))
        self.assertGreater(seen, 100)

    def test_for_every_thing_also_one_that_nobody_named(self):
        watch = Watch()
        watch.add("low", Clerk(1))
        watch.add("kind", Clerk(1, graces={"a": 5}))
        watch.add("high", Clerk(3))
        watch.add("strict", Clerk(3, graces={"a": -2}))
        watch.add("hard", Clerk(3, graces={"a": -3}))
        due = [("high", "hard"), ("high", "low"), ("high", "strict"), ("kind", "low"), ("strict", "hard"),
               ("strict", "low")]
        self.assertEqual(watch.overs(), due)
        self.assertIs(watch.is_over("kind", "high"), False)
        # The unlike graces of what both have make up for nothing elsewhere.
        watch.add("wide", Clerk(2, graces={"a": 9, "b": 9}))
        self.assertIs(watch.is_over("wide", "high"), False)
        self.assertIs(watch.is_over("wide", "low"), True)

    def test_what_is_held(self):
        watch = Watch()
        watch.add("a", Clerk(3, standing=[("x", 0), ("y", 2)]))
        watch.add("b", Clerk(3, standing=[("x", 1), ("y", 2)]))
        watch.add("c", Clerk(3, standing=[("x", 0)]))
        watch.add("d", Clerk(3, standing=[("y", 2), ("z", 2)]))
        self.assertEqual(watch.overs(), [("a", "b"), ("a", "c")])
        self.assertEqual(watch.lacking("a", "d"), ["z"])
        self.assertEqual(watch.lacking("d", "a"), ["x"])
        self.assertEqual(watch.lacking("c", "d"), ["y", "z"])
        self.assertEqual(watch.lacking("a", "a"), [])

    def test_one_name_twice(self):
        watch = Watch()
        watch.add("a", Clerk(3, standing=[("x", 0), ("y", 2)], graces={"x": -2}))
        watch.add("b", Clerk(3, standing=[("x", 0), ("y", 2)], graces={"x": -2, "q": 0}))
        self.assertIs(watch.is_over("a", "a"), True)
        self.assertEqual(watch.overs(), [("a", "b"), ("b", "a")])


class TestTwo(unittest.TestCase):
    def test_apart(self):
        chance = oracle.chance_of(800)
        for _ in range(100):
            watch = Watch()
            plain = {}
            for name in ("one", "two"):
                drawers, graces, standing = some_start(chance)
                watch.add(name, Clerk(drawers, graces=graces, standing=standing))
                plain[name] = oracle.PlainClerk(drawers, graces, standing)
            kept = all_of(watch)
            row = oracle.some_row(chance, "abcdefg", 2)
            asks = oracle.lay(row)
            if len(asks) > 400:
                continue
            hits = {name: plain[name].twin().hear(asks) for name in plain}
            due = [(at, "two" if hits["one"][at] else "one") for at in range(len(asks))
                   if hits["one"][at] != hits["two"][at]]
            self.assertEqual(watch.apart("one", "two", row), due)
            self.assertEqual(watch.apart("two", "one", row), due)
            self.assertEqual(watch.apart("one", "one", row), [])
            self.assertEqual(all_of(watch), kept)

    def test_names_ahead_of_rows(self):
        watch = Watch()
        watch.add("a", Clerk(1))
        great = [(["a"], 401)]
        for name in NO_THINGS + ("b",):
            for row in (["A"], great):
                self.assertRaises(NoName, watch.apart, name, "a", row)
                self.assertRaises(NoName, watch.apart, "a", name, row)
            for call in (watch.is_over, watch.lacking):
                self.assertRaises(NoName, call, name, "a")
                self.assertRaises(NoName, call, "a", name)
            for call in (watch.leave, watch.clerk):
                self.assertRaises(NoName, call, name)
        for row in NO_ROWS:
            self.assertRaises(NoRow, watch.apart, "a", "a", row)
        with self.assertRaises(TooMany) as caught:
            watch.apart("a", "a", great)
        self.assertEqual(caught.exception.many, 401)
        self.assertEqual(watch.apart("a", "a", [(["a"], 400)]), [])


class TestRefused(unittest.TestCase):
    def test_names(self):
        watch = Watch()
        for name in NO_THINGS:
            self.assertRaises(NoName, watch.add, name, Clerk(1))
        watch.add("a", Clerk(1))
        self.assertRaises(Taken, watch.add, "a", Clerk(2))
        self.assertEqual(watch.clerk("a").drawers(), 1)
        watch.leave("a")
        self.assertRaises(NoName, watch.leave, "a")
        watch.add("a", Clerk(2))
        self.assertEqual(watch.clerk("a").drawers(), 2)

    def test_what_is_refused_changes_nothing(self):
        watch = Watch()
        watch.add("a", Clerk(2, standing=[("x", 1)]))
        watch.ask("y")
        kept = all_of(watch)
        calls = [(watch.ask, one) for one in NO_THINGS] + [(watch.ask_row, one) for one in NO_ROWS]
        calls += [(watch.add, "A", Clerk(1)), (watch.add, "a", Clerk(1)), (watch.leave, "b"), (watch.clerk, "b"),
                  (watch.is_over, "a", "b"), (watch.lacking, "b", "a"), (watch.apart, "a", "a", ["A"])]
        for call, *handed in calls:
            self.assertRaises(MissError, call, *handed)
            self.assertEqual(all_of(watch), kept)
        watch.back()
        watch.back()
        self.assertRaises(Nothing, watch.back)

    def test_what_is_told_is_the_askers_own(self):
        watch = Watch()
        watch.add("a", Clerk(1))
        kept = all_of(watch)
        watch.names().append("z")
        watch.overs().append(("a", "z"))
        watch.lacking("a", "a").append("z")
        row = ["x"]
        told = watch.ask_row(row)
        row.append("y")
        told["a"] = 99
        watch.ask("x").append("z")
        self.assertEqual(watch.clerk("a").history(), [("row", ["x"]), ("ask", "x")])
        watch.back()
        watch.back()
        self.assertEqual(all_of(watch), kept)


if __name__ == "__main__":
    unittest.main()
