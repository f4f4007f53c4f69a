"""Points 2 and 3: what is handed in and told stays apart, and which refusal goes first."""

import copy
import itertools
import unittest

from missclock import (clerks, depths, edits, far, graces, judge_depths, judge_reminders, loops, papers, plain,
                       reminders, rows, shelf, starts, texts, told_back)
from missclock.errors import (MissError, NoDepths, NoDrawers, NoGraces, NoHistory, NoNumber, NoPlace, NoRow,
                              NoStanding, NoSteady, NoThing, NoWish, TooMany)

MOST = 10 ** 30


class NoSuchNumber(NoPlace):
    """Stands here for NoPlace of a number that any place may exceed."""


class NoSuchRoom(NoPlace):
    """Stands here for NoPlace of a number of places of the plain rule."""


class NoSuchWish(NoWish):
    """Stands here for NoWish of a list of things."""


class NoSuchStart(NoStanding):
    """Stands here for NoStanding of a start, where None is none either."""


class NoSuchThings(NoThing):
    """Stands here for NoThing of a list of unlike things, of which one is wrong."""


class NoneKinder(NoGraces):
    """Stands here for NoGraces of graces that are not kinder."""


class TooManyTried(TooMany):
    """Stands here for TooMany of a row of more than forty asks."""


class TooManyListed(TooMany):
    """Stands here for TooMany of a loop of more than twelve asks."""


class TooManyLooped(TooMany):
    """Stands here for TooMany of a loop of more than eight asks."""


class TooManyToldBack(TooMany):
    """Stands here for TooMany of a list of more than ten depths."""


class NoSuchLoop(NoRow):
    """Stands here for NoRow of a loop, or a round, which has an ask."""


class NoSuchGraces(NoGraces):
    """Stands here for NoGraces where None is none either."""


# The refusal that each of these stands for.
STANDS_FOR = {NoSuchNumber: NoPlace, NoSuchRoom: NoPlace, NoSuchWish: NoWish, NoSuchStart: NoStanding,
              NoSuchThings: NoThing, NoneKinder: NoGraces, TooManyTried: TooMany, TooManyListed: TooMany,
              TooManyLooped: TooMany, TooManyToldBack: TooMany, NoSuchLoop: NoRow, NoSuchGraces: NoGraces}


# What is wrong in each kind, by its form or by its bounds.
WRONG = {
    NoRow: (None, "ab", 3, {"a": 1}, ["A"], [(["a"], 0)], [([], 1)], ["a", ["b"]], [(["a"], True)],
            {"a"}, object()),
    NoDrawers: (0, -1, MOST + 1, True, False, None, "3", 2.0, [2], (2,)),
    NoGraces: (0, False, [], (), "a", {"A": 1}, {"a": None}, {"a": True}, {"a": False},
               {"b": 2, "a": False}, {"a": 1, "abcdefghi": 1}, {"a": 1, "bC": 2}, {"a": 1.0}, {3: 1},
               {"": 1}, {("a",): 1}, {"a": 1, "b": "1"}, [("a", 1)], {"a"}),
    NoStanding: ((), {}, 0, False, "a", [None], [["a", 0]], [("a", -1)], [("a", True)],
                 [("b", 0), ("b", 0)], [("b", 1), ("c", 0)], [("b", 10 ** 40)], [("b",)],
                 [("b", 0, 0)]),
    NoThing: (None, 3, "", "A", "abcdefghi", ["a"], ("a",), True, b"a"),
    NoPlace: (None, -1, True, False, 10 ** 40, "0", 0.0, [0], (0,)),
    NoSuchNumber: (None, -1, True, False, "0", 0.0, [0], (0,), -10 ** 5000),
    NoSuchRoom: (None, 0, -1, True, False, "1", 1.0, [1], (1,), -10 ** 5000),
    NoSuchWish: (None, (), ("a",), {}, {"a": 1}, "a", 3, ["z"], ["a", "a"], [None], [["a"]], [True]),
    NoSuchThings: (["a", "A"], ["A"], ["a", "A", "a", 3], ["A", None]),
    NoneKinder: ({"a": 0}, {"a": 1, "b": -2}, {"c": -1, "a": 2}, 3, None),
    NoNumber: (None, -1, True, False, "0", 0.0, [0], (0,), -10 ** 5000),
    NoWish: (None, 3, (), (0,), {}, {0: 1}, "0", [True], [False], [-1], [10 ** 40], [0, 0], [1, 0],
             [None], [0.0], ["0"], [[0]]),
}

WRONG[NoSuchStart] = (None,) + WRONG[NoStanding]
WRONG[NoSuchLoop] = ([], ()) + WRONG[NoRow]
WRONG[NoSuchGraces] = (None,) + WRONG[NoGraces]
WRONG[NoSteady] = (None, 3, (), {}, "a", [True], [None], [-1], [0, 0], [1, 0], [0], [10 ** 40], ["0"])
WRONG[NoDepths] = (None, 3, (), (0,), {}, "0", [True], [-1], ["0"], [0.0], [[0]], [None] * 11 + [False])
WRONG[NoHistory] = (None, 3, (), {}, "more", [None], ["more"], [("ask",)], [("ask", "A")], [("row", "a")],
                    [("grace", "a", True)], [("more", 1)], [["more"]])

ROW = ["a", "b", (["a", "c"], 2)]
GRACES = {"a": 1, "b": -1}
STANDING = [("b", 0), ("a", 1)]
GREAT = [(["a", "b"], 201)]

# What there is too much of, and how many.
TOO_MANY = {TooMany: (GREAT, 402), TooManyTried: ([(["a", "b"], 20), "a"], 41), TooManyListed: (list("abcdefghijklm"), 13),
            TooManyLooped: (["a"] * 9, 9), TooManyToldBack: ([None] * 11, 11)}

# Of each function: what is handed in by place, what by name, and its refusals, the first one ahead,
# each with where the wrong thing stands: at a place, or behind a name.
CALLS = {
    rows.asks_in: ((ROW,), {}, ((NoRow, 0),)),
    rows.ask_at: ((ROW, 2), {}, ((NoRow, 0), (NoPlace, 1))),
    rows.things_of: ((ROW,), {}, ((NoRow, 0),)),
    rows.last_of: ((ROW,), {}, ((NoRow, 0),)),
    rows.often: ((ROW,), {}, ((NoRow, 0),)),
    rows.asked_ahead: ((ROW, "a", 2), {}, ((NoRow, 0), (NoThing, 1), (NoPlace, 2))),
    rows.so_manieth: ((ROW, "a", 1), {}, ((NoRow, 0), (NoThing, 1), (NoSuchNumber, 2))),
    rows.asked_before: ((ROW, 2), {}, ((NoRow, 0), (NoPlace, 1))),
    rows.halves: ((ROW, 3), {}, ((NoRow, 0), (NoPlace, 1))),
    rows.near: ((ROW,), {}, ((NoRow, 0), (TooMany, 0))),
    clerks.is_standing: ((2, STANDING), {"graces": GRACES}, ((NoDrawers, 0), (NoGraces, "graces"))),
    clerks.asked: ((2, STANDING, "a"), {"graces": GRACES},
                   ((NoDrawers, 0), (NoGraces, "graces"), (NoStanding, 1), (NoThing, 2))),
    clerks.lying: ((2, STANDING), {"graces": GRACES},
                   ((NoDrawers, 0), (NoGraces, "graces"), (NoStanding, 1))),
    depths.depths: ((ROW,), {"graces": GRACES}, ((NoRow, 0), (TooMany, 0), (NoGraces, "graces"))),
    depths.missed_by: ((ROW,), {"graces": GRACES}, ((NoRow, 0), (TooMany, 0), (NoGraces, "graces"))),
    depths.thinned: ((ROW,), {"graces": GRACES}, ((NoRow, 0), (TooMany, 0), (NoGraces, "graces"))),
    depths.drawers_for: ((ROW, 3), {"graces": GRACES},
                         ((NoRow, 0), (TooMany, 0), (NoNumber, 1), (NoGraces, "graces"))),
    depths.drawers_to_hit: ((ROW, [2, 4]), {"graces": GRACES},
                            ((NoRow, 0), (TooMany, 0), (NoWish, 1), (NoGraces, "graces"))),
    depths.nearest_again: ((list("abab"), 1), {"graces": GRACES},
                           ((NoRow, 0), (TooMany, 0), (NoDrawers, 1), (NoGraces, "graces"))),
    judge_depths.depth_fault: ((ROW, [None, None, 0, 1]), {"graces": GRACES},
                               ((NoRow, 0), (TooMany, 0), (NoGraces, "graces"))),
    shelf.shelf: ((ROW,), {}, ((NoRow, 0), (TooMany, 0))),
    shelf.marks: ((ROW,), {}, ((NoRow, 0), (TooMany, 0))),
    shelf.fits: ((ROW, 2), {}, ((NoRow, 0), (TooMany, 0), (NoSuchRoom, 1))),
    plain.plain_depths: ((ROW,), {}, ((NoRow, 0), (TooMany, 0))),
    plain.plain_misses: ((ROW, 2), {}, ((NoRow, 0), (TooMany, 0), (NoSuchRoom, 1))),
}
for call in (shelf.held, shelf.sizes, shelf.most_held, shelf.stays, plain.spared, plain.like_places):
    CALLS[call] = ((ROW, 2), {}, ((NoRow, 0), (TooMany, 0), (NoDrawers, 1)))
OF_WISH = ((NoRow, 0), (TooMany, 0), (NoDrawers, 1), (NoSuchWish, 2), (NoGraces, "graces"))
for call in (graces.least_graces, graces.least_paper):
    CALLS[call] = ((ROW, 2, ["c", "a"]), {"graces": GRACES}, OF_WISH)
CALLS[graces.is_least_paper] = ((ROW, 2, ["c", "a"], ([0], [])), {"graces": GRACES}, OF_WISH)
CALLS[graces.is_kinder] = ((GRACES, {"a": 2}), {}, ((NoGraces, 0), (NoGraces, 1)))
CALLS[graces.helped] = ((ROW, 1, GRACES, {"a": 1}), {}, (
    (NoRow, 0), (TooMany, 0), (NoDrawers, 1), (NoGraces, 2), (NoneKinder, 3)))
CALLS[graces.like_drawers] = ((ROW, 1, {"a": 1, "b": 1, "c": 1}), {}, (
    (NoRow, 0), (TooMany, 0), (NoDrawers, 1), (NoGraces, 2)))
CALLS[graces.by_grace] = ((ROW, 1, "a"), {"graces": GRACES}, (
    (NoRow, 0), (TooMany, 0), (NoDrawers, 1), (NoThing, 2), (NoGraces, "graces")))
CALLS[graces.graces_of] = ((ROW, 1, [0, 1, 3]), {}, (
    (NoRow, 0), (TooMany, 0), (NoDrawers, 1), (NoWish, 2)))
CALLS[graces.graces_barred] = ((ROW, 1, [0, 3]), {}, ((NoRow, 0), (TooMany, 0), (NoDrawers, 1), (NoWish, 2)))

OTHER = [("c", 1), ("a", 2)]
OF_STARTS = ((NoDrawers, 0), (NoGraces, "graces"), (NoSuchStart, 1), (NoSuchStart, 2))
for call in (starts.is_younger, starts.younger_of, starts.elder_of, starts.how_many_between):
    CALLS[call] = ((2, STANDING[1:], [("a", 2)]), {"graces": GRACES}, OF_STARTS)
ROW_OF_STARTS = ((NoRow, 0), (NoDrawers, 1), (NoGraces, "graces"), (NoSuchStart, 2), (NoSuchStart, 3), (TooMany, 0))
for call in (starts.unlike_asks, starts.met, starts.more_missed):
    CALLS[call] = ((ROW, 2, STANDING, OTHER), {"graces": GRACES}, ROW_OF_STARTS)
CALLS[starts.row_to] = ((2, STANDING), {}, ((NoDrawers, 0), (NoSuchStart, 1)))
CALLS[starts.comes_to] = ((ROW, 2, STANDING), {}, (
    (NoRow, 0), (NoDrawers, 1), (NoSuchStart, 2), (TooMany, 0)))
CALLS[starts.all_met] = ((ROW, 2, ["a", "b"]), {"graces": GRACES}, (
    (NoRow, 0), (NoDrawers, 1), (NoSuchThings, 2), (NoGraces, "graces"), (TooMany, 0)))

for call in (edits.put_in, edits.put_away):
    CALLS[call] = ((ROW, 2, "c"), {"graces": GRACES}, (
        (NoRow, 0), (TooMany, 0), (NoPlace, 1), (NoThing, 2), (NoGraces, "graces")))
for call in (edits.left_out, edits.exchanged):
    CALLS[call] = ((ROW, 3), {"graces": GRACES}, ((NoRow, 0), (TooMany, 0), (NoPlace, 1), (NoGraces, "graces")))
CALLS[edits.best_put_in] = ((ROW, 2), {"graces": GRACES}, (
    (NoRow, 0), (TooManyTried, 0), (NoDrawers, 1), (NoGraces, "graces")))

OF_REMINDERS = ((NoRow, 0), (NoDrawers, 1), (NoSuchWish, 2), (NoGraces, "graces"), (TooMany, 0))
for call in (reminders.kept_walk, reminders.gaps, reminders.needs, reminders.fewest, reminders.lazy,
             reminders.wanted):
    CALLS[call] = ((list("abcda"), 2, ["b", "a"]), {"graces": {"a": 1, "b": -1}}, OF_REMINDERS)
CALLS[reminders.drawers_for_few] = ((ROW, ["b", "a"], 1), {"graces": GRACES}, (
    (NoRow, 0), (NoSuchWish, 1), (NoNumber, 2), (NoGraces, "graces"), (TooMany, 0)))

WITH_STANDING = ((NoRow, 0), (NoDrawers, 1), (NoGraces, "graces"), (NoStanding, "standing"), (TooMany, 0))
OF_PLACE = ((NoRow, 0), (TooMany, 0), (NoDrawers, 1), (NoPlace, 2), (NoGraces, "graces"))
WITH_PLACE = WITH_STANDING[:2] + ((NoPlace, 2),) + WITH_STANDING[2:]
NAMED = {"graces": GRACES, "standing": STANDING}
for call in (clerks.walk, clerks.misses, clerks.behind, clerks.losses):
    CALLS[call] = ((ROW, 2), NAMED, WITH_STANDING)
for call in (judge_depths.misses_shown, judge_depths.hits_shown):
    CALLS[call] = ((ROW, 1, 4, [2, 4]), {"graces": GRACES}, OF_PLACE)
CALLS[papers.why_missed] = ((ROW, 1, 3), {"graces": GRACES}, OF_PLACE)
CALLS[papers.why_hit] = ((ROW, 1, 4), {"graces": GRACES}, OF_PLACE)
CALLS[clerks.reason] = ((ROW, 2, 4), NAMED, WITH_PLACE)
CALLS[clerks.are_misses] = ((ROW, 2, [0, 1, 3]), NAMED, WITH_STANDING)


for call in (judge_reminders.holds, judge_reminders.shows_wanted):
    CALLS[call] = ((list("abcda"), 2, ["b", "a"], [(2, "a")]), {"graces": {"a": 1, "b": -1}}, OF_REMINDERS)

FAR = [(["a", (["b", "c"], MOST)], MOST), "d"]
CALLS[far.behind_far] = ((FAR, 2), NAMED, WITH_STANDING[:4])
CALLS[far.misses_ahead] = ((ROW, 2, 6), NAMED, WITH_PLACE[:5])
CALLS[far.hits_at] = ((ROW, 2, 5), NAMED, WITH_PLACE[:5])
CALLS[far.nth_miss] = ((FAR, 2, 1), NAMED, WITH_STANDING[:2] + ((NoSuchNumber, 2),) + WITH_STANDING[2:4])
CALLS[far.depth_at] = ((ROW, 4), {}, ((NoRow, 0), (NoPlace, 1)))
CALLS[far.missed_far] = ((FAR,), {}, ((NoRow, 0),))
CALLS[far.stands] = ((FAR, 2), {}, ((NoSuchLoop, 0), (NoDrawers, 1)))
CALLS[far.depth_at_last] = ((ROW, 2), {}, ((NoSuchLoop, 0), (NoPlace, 1)))

OF_LOOPS = ((NoSuchLoop, 0), (TooMany, 0), (NoDrawers, 1))
CALLS[loops.is_steady] = ((ROW, 2, [0, 1]), {}, OF_LOOPS)
CALLS[loops.steady_standing] = ((ROW, 2, []), {}, OF_LOOPS + ((NoSteady, 2),))
CALLS[loops.greatest_steady] = ((ROW, 1), {}, OF_LOOPS)
CALLS[loops.steady_from] = ((ROW, 2), {"standing": STANDING}, OF_LOOPS + ((NoStanding, "standing"),))
CALLS[loops.are_steady] = ((ROW, [0] * 6), {}, OF_LOOPS[:2])
# Loops of more than four hundred asks are refused ahead of the drawers: test_loops.py tells of them.
CALLS[loops.all_steady] = ((ROW, 1), {}, ((NoSuchLoop, 0), (NoDrawers, 1), (TooManyListed, 0)))
CALLS[loops.all_depths] = ((ROW,), {}, ((NoSuchLoop, 0), (TooManyLooped, 0)))

HISTORY = [("ask", "a"), ("row", ROW), ("away", "a"), ("more",), ("grace", "b", -2)]
CALLS[told_back.row_with] = (([None, None, 1],), {}, ((NoDepths, 0), (TooManyToldBack, 0)))
CALLS[texts.show_row] = ((FAR,), {}, ((NoRow, 0),))
CALLS[texts.show_standing] = ((STANDING,), {}, ())
CALLS[texts.show_graces] = ((GRACES,), {}, ((NoSuchGraces, 0),))
CALLS[texts.show_depths] = (([None, 0, 3],), {}, ((NoDepths, 0),))
CALLS[texts.show_history] = ((HISTORY,), {}, ((NoHistory, 0),))
CALLS[texts.read_row] = (("a 2*(b 3*(c))",), {}, ())
CALLS[texts.read_standing] = (("a:0 b:1",), {}, ())
CALLS[texts.read_graces] = (("a:0 b:-1",), {}, ())
CALLS[texts.read_depths] = (("- - 1",), {}, ())
CALLS[texts.read_history] = (("ask a, row (2*(b))",), {}, ())


def wrong_of(kind, turn):
    if kind in TOO_MANY:
        return TOO_MANY[kind][0]
    return WRONG[kind][turn % len(WRONG[kind])]


def spoilt(call, due, turn):
    """What is handed in by place and by name, wrong wherever a refusal is due."""
    handed = list(CALLS[call][0])
    named = dict(CALLS[call][1])
    # A row that is no row at all takes the place of one that is only too long.
    for kind, where in sorted(due, key=lambda one: not issubclass(one[0], TooMany)):
        if isinstance(where, int):
            handed[where] = wrong_of(kind, turn)
        else:
            named[where] = wrong_of(kind, turn)
    return handed, named


class TestOrder(unittest.TestCase):
    def check(self, call, due, turn):
        handed, named = spoilt(call, due, turn)
        first, where = due[0]
        told = STANDS_FOR.get(first, first)
        with self.assertRaises(MissError) as caught:
            call(*handed, **named)
        self.assertIs(type(caught.exception), told, (call.__name__, handed, named))
        fields = {}
        if told is TooMany:
            fields = {"many": TOO_MANY[first][1]}
        elif first is NoSuchThings:
            fields = {"thing": "A"}
        elif told in (NoThing, NoPlace):
            fields = {"thing" if told is NoThing else "place": handed[where]}
        self.assertEqual(caught.exception.__dict__, fields)

    def test_whatever_is_wrong_at_once(self):
        for call, (_, _, order) in CALLS.items():
            for many in range(1, len(order) + 1):
                for due in itertools.combinations(order, many):
                    for turn in range(max(len(WRONG.get(kind, "1")) for kind, _ in due)):
                        self.check(call, due, turn)

    def test_places_of_far_rows_are_refused_ahead(self):
        for place in (-1, 402, None):
            self.assertRaises(NoPlace, clerks.reason, GREAT, 2, place)
            self.assertRaises(NoPlace, clerks.reason, GREAT, 2, place, graces=3, standing=3)
            self.assertRaises(NoDrawers, clerks.reason, GREAT, 0, place)
        self.assertRaises(TooMany, clerks.reason, GREAT, 2, 401)
        self.assertRaises(NoStanding, clerks.reason, GREAT, 2, 401, standing=3)

    def test_standings_hang_on_drawers_and_graces(self):
        old = [("a", 2)]
        for call in (clerks.walk, clerks.misses, clerks.behind, clerks.losses):
            self.assertRaises(NoStanding, call, ROW, 2, standing=old)
            self.assertRaises(NoStanding, call, ROW, 3, graces={"a": -1}, standing=old)
            call(ROW, 3, standing=old)
            call(ROW, 2, graces={"a": 1}, standing=old)
        # Where some have less grace and others more, each has its own limit.
        for kind in ({"a": -1, "b": 2}, {"a": -1, "b": 0, "c": -5}, {"b": 10 ** 29, "a": -1}):
            for call in (clerks.walk, clerks.misses, clerks.behind, clerks.losses):
                self.assertRaises(NoStanding, call, ROW, 3, graces=kind, standing=old)
                call(ROW, 4, graces=kind, standing=old)
            for call in (clerks.is_standing, clerks.lying):
                call(4, old, graces=kind)
            self.assertIs(clerks.is_standing(3, old, graces=kind), False)
            self.assertRaises(NoStanding, clerks.lying, 3, old, graces=kind)
            self.assertRaises(NoStanding, clerks.asked, 3, old, "a", graces=kind)
        self.assertRaises(NoStanding, clerks.lying, 2, old)
        self.assertRaises(NoStanding, clerks.asked, 2, old, "a")

    def test_things_of_eight_letters(self):
        row = ["abcdefgh", "a", "zzzzzzzz"]
        graces = {"abcdefgh": 1, "zzzzzzzz": -1}
        standing = [("zzzzzzzz", 0), ("abcdefgh", 2)]
        self.assertIs(clerks.is_standing(2, standing, graces=graces), True)
        self.assertEqual(clerks.walk(row, 2, graces=graces, standing=standing), [True, False, False])
        for call in (clerks.is_standing, clerks.lying):
            call(2, standing, graces=graces)

    def test_four_hundred_asks_are_near(self):
        for call, (handed, named, order) in CALLS.items():
            near = [(["a", "b", "c", "d"], 100)]
            if (TooMany, 0) in order:
                call(near, *handed[1:], **named)
                with self.assertRaises(TooMany) as caught:
                    call(near + ["a"], *handed[1:], **named)
                self.assertEqual(caught.exception.many, 401)

    def test_what_is_refused_is_kept_as_a_copy(self):
        worth = [["a"]]
        for call in (lambda: rows.asked_ahead(ROW, worth, 0), lambda: clerks.asked(2, None, worth)):
            with self.assertRaises(NoThing) as caught:
                call()
            worth[0].append("b")
            self.assertEqual(caught.exception.thing, [["a"]])
            worth[0].pop()


class TestApart(unittest.TestCase):
    def test_what_is_handed_in_stays(self):
        for call, (handed, named, _) in CALLS.items():
            before = copy.deepcopy((handed, named))
            call(*handed, **named)
            self.assertEqual((handed, named), before, call.__name__)

    def test_what_is_refused_stays_too(self):
        for call, (_, _, order) in CALLS.items():
            for one in order:
                for turn in range(9):
                    handed, named = spoilt(call, [one], turn)
                    before = copy.deepcopy((handed, named))
                    self.assertRaises(MissError, call, *handed, **named)
                    self.assertEqual((handed, named), before)

    def test_told_alike_and_new_each_time(self):
        for call, (handed, named, _) in CALLS.items():
            one = call(*handed, **named)
            kept = copy.deepcopy(one)
            other = call(*handed, **named)
            self.assertEqual(one, other)
            self.spoil(one)
            self.assertEqual(other, kept, call.__name__)
            self.assertEqual(call(*handed, **named), kept, call.__name__)
            before = copy.deepcopy((handed, named))
            self.spoil(other)
            self.assertEqual((handed, named), before, call.__name__)

    def spoil(self, told):
        """Changes each list and dict of what is told, however deep it lies."""
        if isinstance(told, (list, tuple)):
            for one in list(told):
                self.spoil(one)
        if isinstance(told, list):
            told.append("spoilt")
        if isinstance(told, dict):
            told["spoilt"] = 1

    def test_a_standing_that_stays_as_it_is_is_told_anew(self):
        standing = [("a", 0), ("b", 1)]
        told = [clerks.behind([], 2, standing=standing), clerks.asked(2, standing, "a")[1],
                clerks.lying(2, standing)]
        for one in told:
            one.append("spoilt")
        self.assertEqual(standing, [("a", 0), ("b", 1)])

    def test_kinds(self):
        kinds = {
            rows.asks_in: int, rows.ask_at: str, rows.things_of: list, rows.last_of: list,
            rows.often: dict, rows.asked_ahead: int, rows.so_manieth: int, rows.asked_before: int,
            rows.halves: tuple,
            rows.near: list, clerks.is_standing: bool, clerks.walk: list, clerks.misses: int,
            clerks.behind: list, clerks.asked: tuple, clerks.losses: list, clerks.lying: list,
            clerks.reason: tuple, clerks.are_misses: bool, depths.depths: list,
            depths.missed_by: list, depths.drawers_for: int, depths.drawers_to_hit: int,
            depths.thinned: list, depths.nearest_again: tuple,
            judge_depths.depth_fault: int, judge_depths.misses_shown: bool,
            judge_depths.hits_shown: bool, papers.why_missed: list, papers.why_hit: list,
            shelf.shelf: list, shelf.held: list, shelf.marks: list, shelf.sizes: list,
            shelf.most_held: int, shelf.stays: list, shelf.fits: int, plain.plain_depths: list,
            plain.plain_misses: list, plain.spared: list, plain.like_places: int,
            graces.is_kinder: bool, graces.helped: list, graces.like_drawers: int,
            graces.by_grace: list, graces.least_graces: dict, graces.least_paper: tuple,
            graces.is_least_paper: bool, graces.graces_of: dict, graces.graces_barred: tuple,
            starts.is_younger: bool, starts.unlike_asks: list, starts.met: int,
            starts.younger_of: list, starts.elder_of: list, starts.how_many_between: int,
            starts.row_to: tuple, starts.comes_to: bool, starts.all_met: int,
            starts.more_missed: int, edits.put_in: tuple, edits.left_out: list,
            edits.exchanged: list, edits.put_away: list, edits.best_put_in: tuple,
            reminders.kept_walk: list, reminders.gaps: dict, reminders.needs: dict,
            reminders.fewest: int, reminders.lazy: list, reminders.wanted: list,
            reminders.drawers_for_few: int,
            judge_reminders.holds: bool, judge_reminders.shows_wanted: type(None),
            far.behind_far: tuple, far.misses_ahead: int, far.hits_at: bool, far.nth_miss: int,
            far.depth_at: int, far.missed_far: list, far.stands: tuple, far.depth_at_last: int,
            loops.is_steady: bool, loops.steady_standing: list, loops.greatest_steady: list,
            loops.steady_from: tuple, loops.are_steady: bool, loops.all_steady: list, loops.all_depths: list,
            told_back.row_with: list, texts.show_row: str, texts.show_standing: str, texts.show_graces: str,
            texts.show_depths: str, texts.show_history: str, texts.read_row: list, texts.read_standing: list,
            texts.read_graces: dict, texts.read_depths: list, texts.read_history: list,
        }
        self.assertEqual(set(kinds), set(CALLS))
        for call, kind in kinds.items():
            handed, named, _ = CALLS[call]
            self.assertIs(type(call(*handed, **named)), kind, call.__name__)
        for told in (graces.least_paper(ROW, 2, ["a"]), edits.put_in(ROW, 2, "c"), starts.row_to(2, STANDING)):
            self.assertIs(type(told[1]), list)
        truths = clerks.walk(ROW, 2)
        self.assertEqual({type(one) for one in truths}, {bool})
        for pairs in (clerks.losses(list("abcd"), 1), clerks.lying(2, STANDING),
                      clerks.behind(ROW, 2), depths.missed_by(ROW), shelf.shelf(ROW), shelf.stays(ROW, 1)):
            self.assertEqual({type(one) for one in pairs}, {tuple})
        self.assertEqual({type(many) for _, many in depths.missed_by(["a"])}, {int})
        self.assertEqual({type(things) for _, things in clerks.losses(list("abcd"), 1)}, {list})
        self.assertIs(type(clerks.reason(list("abca"), 1, 3)[1]), list)


if __name__ == "__main__":
    unittest.main()
