"""Stage 12: all clerks at once, points 81 to 85."""

import time
import unittest

import oracle
from missclock.clerks import behind, misses
from missclock.depths import depths, missed_by
from missclock.edits import put_away
from missclock.errors import MissError, NoDrawers, Nothing, NoThing
from missclock.ladder import Ladder
from missclock.shelf import shelf

MOST = 10 ** 30

# With as many drawers as this no clerk of these tests puts anything away.
ALL = 12

NO_THINGS = (None, 3, True, "", "A", "abcdefghi", ["a"], ("a",), {}, {"a"}, b"a", 1.0)


def ladder_of(asks):
    ladder = Ladder()
    for thing in asks:
        ladder.ask(thing)
    return ladder


def facts(ladder):
    """All that a ladder tells of itself."""
    return (ladder.shelf(), ladder.steps(), ladder.history(), len(ladder),
            [(ladder.held(drawers), ladder.standing(drawers), ladder.missed(drawers))
             for drawers in (1, 2, 3, 4, 5, ALL, MOST)])


class PlainLadder:
    """Point 81 by clerks with one drawer, with two, and so on, all of whom hear each deed."""

    def __init__(self):
        self.clerks = [oracle.PlainClerk(drawers) for drawers in range(1, ALL + 1)]
        self.deeds = []
        self.order = []

    def ask(self, thing):
        self.deeds.append(("ask", thing))
        self.order = [thing] + [other for other in self.order if other != thing]
        missing = [clerk.drawers for clerk in self.clerks if not clerk.hear([thing])[0]]
        assert missing == list(range(1, len(missing) + 1))
        return None if len(missing) == ALL else len(missing)

    def put_away(self, thing):
        self.deeds.append(("away", thing))
        self.order.remove(thing)
        for clerk in self.clerks:
            clerk.put_away(thing)

    def facts(self):
        depths_now = []
        for thing in self.order:
            missing = [clerk for clerk in self.clerks if thing not in dict(clerk.held)]
            depths_now.append((thing, len(missing)))
        steps = []
        for clerk in self.clerks:
            if not steps or clerk.missed < steps[-1][1]:
                steps.append((clerk.drawers, clerk.missed))
        told = []
        for drawers in (1, 2, 3, 4, 5, ALL, ALL):
            clerk = self.clerks[drawers - 1]
            held = [thing for thing in self.order if thing in dict(clerk.held)]
            told.append((held, clerk.held, clerk.missed))
        return depths_now, steps, self.deeds, len(self.deeds), told


class TestAgainstClerks(unittest.TestCase):
    def test_drawn_deeds(self):
        chance = oracle.chance_of(810)
        for _ in range(60):
            ladder, plain = Ladder(), PlainLadder()
            for _ in range(25):
                if plain.order and chance.random() < 0.2:
                    thing = chance.choice(plain.order)
                    self.assertIsNone(ladder.put_away(thing))
                    plain.put_away(thing)
                else:
                    thing = chance.choice("abcdefgh")
                    self.assertEqual(ladder.ask(thing), plain.ask(thing))
                self.assertEqual(facts(ladder), plain.facts())

    def test_all_small_rows_one_thing_put_away_anywhere(self):
        for asks in oracle.all_rows(4):
            for at in range(len(asks) + 1):
                for thing in "abc":
                    ladder, plain = Ladder(), PlainLadder()
                    told = [(ladder.ask(one), plain.ask(one)) for one in asks[:at]]
                    if thing in asks[:at]:
                        ladder.put_away(thing)
                        plain.put_away(thing)
                    else:
                        self.assertRaises(NoThing, ladder.put_away, thing)
                    told += [(ladder.ask(one), plain.ask(one)) for one in asks[at:]]
                    self.assertEqual([one for one, _ in told], [other for _, other in told])
                    self.assertEqual(facts(ladder), plain.facts())


class TestRows(unittest.TestCase):
    def test_a_row_told_one_by_one(self):
        chance = oracle.chance_of(850)
        rows = list(oracle.all_rows(5)) + [oracle.some_asks(chance, 60, "abcdefghijkl") for _ in range(30)]
        for asks in rows:
            ladder = Ladder()
            self.assertEqual([ladder.ask(thing) for thing in asks], depths(asks))
            self.assertEqual(ladder.shelf(), shelf(asks))
            self.assertEqual(ladder.steps(), missed_by(asks))
            for drawers in (1, 2, 5, MOST):
                self.assertEqual(ladder.standing(drawers), behind(asks, drawers))
                self.assertEqual(ladder.missed(drawers), misses(asks, drawers))

    def test_two_rows_one_behind_the_other(self):
        chance = oracle.chance_of(851)
        for _ in range(50):
            one, other = oracle.some_asks(chance, 12, "abcde"), oracle.some_asks(chance, 12, "cdefg")
            ladder = ladder_of(one)
            self.assertEqual([ladder.ask(thing) for thing in other], depths(one + other)[12:])

    def test_putting_away_as_in_stage_seven(self):
        chance = oracle.chance_of(852)
        for _ in range(80):
            asks = oracle.some_asks(chance, 20, "abcdef")
            place, thing = chance.randrange(21), chance.choice("abcdef")
            ladder = ladder_of(asks[:place])
            due = depths(asks)
            for at, _, new in put_away(asks, place, thing):
                due[at] = new
            if thing in asks[:place]:
                ladder.put_away(thing)
            told = [ladder.ask(one) for one in asks[place:]]
            self.assertEqual(told, due[place:])

    def test_putting_away_what_is_never_asked_again(self):
        chance = oracle.chance_of(853)
        for _ in range(80):
            asks = oracle.some_asks(chance, 15, "abcdef")
            one, other = ladder_of(asks), ladder_of(asks)
            other.put_away(asks[0])
            for _ in range(15):
                thing = chance.choice([thing for thing in "abcdefg" if thing != asks[0]])
                self.assertEqual(one.ask(thing), other.ask(thing))


class TestTold(unittest.TestCase):
    def test_heard_nothing(self):
        ladder = Ladder()
        self.assertEqual(facts(ladder), ([], [(1, 0)], [], 0, [([], [], 0)] * 7))

    def test_by_hand(self):
        ladder = ladder_of("dabcba")
        self.assertEqual(ladder.shelf(), [("a", 0), ("b", 1), ("c", 1), ("d", 3)])
        self.assertEqual([ladder.held(drawers) for drawers in (1, 2, 3, 4)],
                         [["a"], ["a", "b", "c"], ["a", "b", "c"], ["a", "b", "c", "d"]])
        self.assertEqual(ladder.steps(), [(1, 6), (2, 5), (3, 4)])
        ladder.put_away("b")
        self.assertEqual(ladder.shelf(), [("a", 0), ("c", 1), ("d", 3)])
        self.assertEqual(ladder.steps(), [(1, 6), (2, 5), (3, 4)])
        self.assertIsNone(ladder.ask("b"))
        self.assertEqual(ladder.steps(), [(1, 7), (2, 6), (3, 5)])
        self.assertEqual(ladder.ask("b"), 0)

    def test_put_away_what_was_not_asked_since(self):
        ladder = ladder_of("ab")
        for thing in NO_THINGS + ("c",):
            with self.assertRaises(NoThing) as caught:
                ladder.put_away(thing)
            self.assertEqual(caught.exception.thing, thing)
        ladder.put_away("a")
        self.assertRaises(NoThing, ladder.put_away, "a")
        self.assertIsNone(ladder.ask("a"))
        ladder.put_away("a")
        self.assertRaises(NoThing, ladder.put_away, "a")
        self.assertEqual(len(ladder), 5)

    def test_along_the_shelf_depths_never_fall(self):
        chance = oracle.chance_of(820)
        for _ in range(100):
            ladder = ladder_of(oracle.some_asks(chance, 30, "abcdefgh"))
            for thing in chance.sample([thing for thing, _ in ladder.shelf()], 2):
                ladder.put_away(thing)
            told = [depth for _, depth in ladder.shelf()]
            self.assertEqual(told, sorted(told))
            for drawers in (1, 2, 3, 9):
                self.assertEqual(ladder.held(drawers), [thing for thing, depth in ladder.shelf() if depth < drawers])

    def test_four_hundred_asks(self):
        names = oracle.some_names(60)
        asks = [names[7 * at % 60] for at in range(400)]
        began = time.process_time()
        ladder = Ladder()
        self.assertEqual([ladder.ask(thing) for thing in asks], depths(asks))
        self.assertEqual(ladder.shelf(), shelf(asks))
        self.assertEqual(ladder.standing(40), behind(asks, 40))
        self.assertLess(time.process_time() - began, 5)


class TestBack(unittest.TestCase):
    def test_back_undoes_each_deed(self):
        chance = oracle.chance_of(840)
        for _ in range(40):
            ladder = Ladder()
            told = [facts(ladder)]
            for _ in range(25):
                things = [thing for thing, _ in ladder.shelf()]
                if len(told) > 1 and chance.random() < 0.25:
                    self.assertIsNone(ladder.back())
                    told.pop()
                elif things and chance.random() < 0.3:
                    ladder.put_away(chance.choice(things))
                    told.append(facts(ladder))
                else:
                    ladder.ask(chance.choice("abcde"))
                    told.append(facts(ladder))
                self.assertEqual(facts(ladder), told[-1])
            while len(told) > 1:
                ladder.back()
                told.pop()
                self.assertEqual(facts(ladder), told[-1])
            self.assertRaises(Nothing, ladder.back)

    def test_equal(self):
        one, other = ladder_of("aba"), ladder_of("aba")
        self.assertIs(one == other, True)
        self.assertIs(one != other, False)
        other.put_away("a")
        self.assertIs(one == other, False)
        other.back()
        self.assertEqual(one, other)
        self.assertNotEqual(one, ladder_of("bab"))
        self.assertEqual(Ladder(), Ladder())
        for thing in (None, [], one.history(), "aba", 3, object(), Ladder, oracle.PlainClerk(1)):
            self.assertIs(one == thing, False)
            self.assertIs(one != thing, True)
            self.assertIs(Ladder() == thing, False)

    def test_twins(self):
        chance = oracle.chance_of(841)
        for _ in range(40):
            one = ladder_of(oracle.some_asks(chance, 12, "abcde"))
            one.put_away(one.shelf()[1][0])
            other = one.twin()
            self.assertEqual(other, one)
            kept = facts(one)
            self.assertEqual(facts(other), kept)
            other.ask("z")
            other.put_away("z")
            self.assertEqual(facts(one), kept)
            told = facts(other)
            one.ask("a")
            one.ask("a")
            self.assertEqual(facts(other), told)
            for _ in range(15):
                other.back()
            self.assertEqual(other, Ladder())


class TestRefused(unittest.TestCase):
    def test_what_is_refused_changes_nothing(self):
        ladder = ladder_of("abab")
        kept = facts(ladder)
        calls = [(ladder.ask, one) for one in NO_THINGS] + [(ladder.put_away, one) for one in NO_THINGS]
        for drawers in (0, -1, MOST + 1, True, None, "1", 1.0):
            calls += [(call, drawers) for call in (ladder.held, ladder.standing, ladder.missed)]
        for call, handed in calls:
            kind = NoDrawers if call in (ladder.held, ladder.standing, ladder.missed) else NoThing
            self.assertRaises(kind, call, handed)
            self.assertRaises(MissError, call, handed)
            self.assertEqual(facts(ladder), kept)

    def test_what_is_told_is_the_askers_own(self):
        ladder = ladder_of("abab")
        kept = facts(ladder)
        for told in (ladder.shelf(), ladder.held(2), ladder.standing(2), ladder.steps(), ladder.history()):
            told.append("spoilt")
        self.assertEqual(facts(ladder), kept)


if __name__ == "__main__":
    unittest.main()
