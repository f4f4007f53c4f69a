"""Stage 13: texts, points 87 to 89."""

import copy
import itertools
import re
import unittest

import oracle
from missclock.clerks import behind
from missclock.depths import depths
from missclock.errors import MissError, NoDepths, NoGraces, NoHistory, NoRow, NoStanding, NoText
from missclock.live import Clerk, clerk_of
from missclock.rows import asks_in, halves
from missclock.texts import (read_depths, read_graces, read_history, read_row, read_standing, show_depths,
                             show_graces, show_history, show_row, show_standing)

MOST = 10 ** 30

THING = "[a-z]{1,8}"
NUMBER = "(?:0|[1-9][0-9]*)"
GRACE = "(?:0|-?[1-9][0-9]*)"


def words_of(text):
    return text.split(" ") if text else []


def row_fault(text):
    """Point 89 for a row, by patterns: the number of the first word that can't stand there, or None."""
    deep = deepest = parts = 0
    things = set()
    for at, word in enumerate(words_of(text)):
        match = re.fullmatch(rf"((?:[1-9][0-9]*\*\()*)({THING})(\)*)", word)
        if not match or any(int(times) > MOST for times in re.findall("[0-9]+", match[1])):
            return at
        deep += match[1].count("(")
        deepest = max(deepest, deep)
        deep -= len(match[3])
        if deep < 0:
            return at
        parts += 1 + match[1].count("(")
        things.add(match[2])
    if deep or parts > 400 or len(things) > 60 or deepest > 4:
        return len(words_of(text))
    return None


def standing_fault(text):
    told = []
    for at, word in enumerate(words_of(text)):
        if not re.fullmatch(f"{THING}:{NUMBER}", word):
            return at
        thing, age = word.split(":")
        if any(thing == other or int(age) < least for other, least in told):
            return at
        told.append((thing, int(age)))
    return None


def graces_fault(text):
    last = ""
    for at, word in enumerate(words_of(text)):
        if not re.fullmatch(f"{THING}:{GRACE}", word) or word.split(":")[0] <= last:
            return at
        last = word.split(":")[0]
    return None


def depths_fault(text):
    for at, word in enumerate(words_of(text)):
        if not re.fullmatch(f"-|{NUMBER}", word):
            return at
    return None


def history_fault(text):
    for at, deed in enumerate(text.split(", ") if text else []):
        match = re.fullmatch(r"row \((.*)\)", deed, re.DOTALL)
        if match and row_fault(match[1]) is None:
            continue
        if not re.fullmatch(f"ask {THING}|away {THING}|more|fewer|grace {THING} {GRACE}", deed):
            return at
    return None


# Of each kind: what reads it, what writes it, and what is at fault by patterns.
KINDS = {
    "row": (read_row, show_row, row_fault), "standing": (read_standing, show_standing, standing_fault),
    "graces": (read_graces, show_graces, graces_fault), "depths": (read_depths, show_depths, depths_fault),
    "history": (read_history, show_history, history_fault),
}


def in_lists(row):
    return [part if isinstance(part, str) else (in_lists(part[0]), part[1]) for part in row]


def some_number(chance):
    return chance.choice((0, 1, 7, 10, 305, 10 ** 29, 10 ** 64, 10 ** 128 + 7, chance.randrange(10 ** 100)))


def some_deed(chance):
    kind = chance.choice(("ask", "row", "away", "more", "fewer", "grace"))
    if kind == "row":
        return ("row", chance.choice(([], oracle.some_row(chance, ("a", "bc", "zzzzzzzz"), 2))))
    if kind in ("more", "fewer"):
        return (kind,)
    thing = chance.choice(("a", "more", "abcdefgh"))
    return (kind, thing, chance.choice((1, -1)) * some_number(chance)) if kind == "grace" else (kind, thing)


def some_of(chance, kind):
    """Something drawn that is written and read back."""
    names = chance.sample(("a", "b", "abcdefgh", "zz", "more", "row"), chance.randint(0, 5))
    if kind == "row":
        return oracle.some_row(chance, ("a", "b", "abcdefgh", "zz"), 3)
    if kind == "standing":
        return list(zip(names, sorted(some_number(chance) for _ in names)))
    if kind == "graces":
        return {name: chance.choice((1, -1)) * some_number(chance) for name in names}
    if kind == "depths":
        return [chance.choice((None, some_number(chance))) for _ in names]
    return [some_deed(chance) for _ in names]


def told_back(kind, thing):
    """What is read of what was written: in lists, in the order of things."""
    if kind == "row":
        return in_lists(thing)
    if kind == "history":
        return [("row", in_lists(deed[1])) if deed[0] == "row" else deed for deed in thing]
    return thing


class TestBoth(unittest.TestCase):
    def check(self, kind, text):
        """What is no writing is refused at the right word, all else is read, and written just so."""
        read, show, fault = KINDS[kind]
        at = fault(text)
        try:
            told = read(text)
        except NoText as refusal:
            self.assertIsNotNone(at, (kind, text))
            self.assertEqual(refusal.at, at, (kind, text))
            return False
        self.assertIsNone(at, (kind, text))
        self.assertEqual(show(told), text)
        return True

    def test_all_short_texts(self):
        signs = {"row": "a2*() ", "standing": "ab:01 ", "graces": "ab:-01 ", "depths": "-01 ", "history": "more, "}
        for kind in KINDS:
            many = 0
            for long in range(7 if len(signs[kind]) < 7 else 6):
                for text in itertools.product(signs[kind], repeat=long):
                    many += self.check(kind, "".join(text))
            self.assertGreater(many, 1, kind)

    def test_each_writing_is_read_back(self):
        chance = oracle.chance_of(870)
        for kind, (read, show, _) in KINDS.items():
            for _ in range(300):
                thing = some_of(chance, kind)
                before = copy.deepcopy(thing)
                text = show(thing)
                self.assertEqual(thing, before)
                told = read(text)
                self.assertEqual(told, told_back(kind, thing))
                self.assertIs(type(told), dict if kind == "graces" else list)
                self.assertTrue(self.check(kind, text))

    def test_texts_near_a_writing(self):
        chance = oracle.chance_of(871)
        signs = "ab1023-:*(), \n\tA."
        for kind, (_, show, _) in KINDS.items():
            refused = 0
            for _ in range(1500):
                text = show(some_of(chance, kind))
                for _ in range(chance.randint(1, 2)):
                    at = chance.randint(0, len(text))
                    turn = chance.random()
                    if turn < 0.4:
                        text = text[:at] + text[at + 1:]
                    elif turn < 0.7:
                        text = text[:at] + chance.choice(signs) + text[at:]
                    else:
                        text = text[:at] + chance.choice(signs) + text[at + 1:]
                refused += not self.check(kind, text)
            self.assertGreater(refused, 300)

    def test_what_is_no_text(self):
        for read, _, _ in KINDS.values():
            for text in (None, 3, True, [], ["a"], (), {}, b"a", b"", 1.0, object()):
                with self.assertRaises(NoText) as caught:
                    read(text)
                self.assertIsNone(caught.exception.at)

    def test_nothing_is_the_empty_text(self):
        for kind, (read, show, _) in KINDS.items():
            nothing = {} if kind == "graces" else []
            self.assertEqual(show(nothing), "")
            self.assertEqual(read(""), nothing)
            with self.assertRaises(NoText) as caught:
                read(" ")
            self.assertEqual(caught.exception.at, 0)

    def test_told_anew(self):
        for read, text in ((read_row, "a 2*(b)"), (read_standing, "a:0"), (read_depths, "- 0"),
                           (read_history, "ask a, row (2*(b))")):
            kept = read(text)
            told = read(text)
            told.append("z")
            self.assertEqual(read(text), kept)
        read_row("2*(a)")[0][0].append("z")
        self.assertEqual(read_row("2*(a)"), [(["a"], 2)])


class TestRows(unittest.TestCase):
    def at(self, text):
        with self.assertRaises(NoText) as caught:
            read_row(text)
        return caught.exception.at

    def test_by_hand(self):
        row = ["a", (["b", (("c", "d"), MOST)], 3), "efghijkl"]
        text = f"a 3*(b {MOST}*(c d)) efghijkl"
        self.assertEqual(show_row(row), text)
        self.assertEqual(show_row(tuple(row)), text)
        self.assertEqual(read_row(text), ["a", (["b", (["c", "d"], MOST)], 3), "efghijkl"])
        self.assertEqual(show_row([([(["a"], 1)], 2)]), "2*(1*(a))")
        self.assertEqual(read_row("2*(1*(a)) b"), [([(["a"], 1)], 2), "b"])
        self.assertEqual(show_row(()), "")

    def test_faults_by_hand(self):
        for text, at in (("A", 0), ("a A", 1), ("a  b", 1), (" a", 0), ("a ", 1), ("a\n", 0), ("abcdefghi", 0),
                         ("2*(a", 1), ("2*(a b", 2), ("2*(a 3*(b)", 2), ("2*(a)) b", 0), ("a) b", 0), ("a b) c", 1),
                         ("2*()", 0), ("2*( a)", 0), ("a 2*(", 1), ("0*(a)", 0), ("b 02*(a)", 1), ("*(a)", 0),
                         ("-2*(a)", 0), ("2(a)", 0), ("2*a", 0), ("(a)", 0), ("2*(a)b", 0), ("2*(a )", 1),
                         ("2 *(a)", 0), ("a,b", 0), ("a\tb", 0), ("2*(a B", 1), ("2*(a b))", 1), ("\u00b2*(a)", 0),
                         ("\u0663*(a)", 0), ("\u00e9", 0), (f"{MOST + 1}*(a)", 0), (f"a b {10 ** 400}*(a) C", 2)):
            self.assertEqual(self.at(text), at, text)
        self.assertEqual(read_row(f"{MOST}*(a)"), [(["a"], MOST)])

    def test_bounds(self):
        names = oracle.some_names(61)
        # Four hundred parts, those within agains and the agains, too.
        good = [(" ".join(["a"] * 400), 400), (" ".join(["2*(a)"] * 200), 400), (" ".join(names[:60]), 60)]
        for text, asks in good:
            self.assertEqual(asks_in(read_row(text)), asks)
            self.assertEqual(show_row(read_row(text)), text)
        self.assertEqual(read_row("2*(2*(2*(2*(a))))"), [([([([(["a"], 2)], 2)], 2)], 2)])
        for text, words in ((" ".join(["a"] * 401), 401), (" ".join(["2*(a)"] * 200 + ["a"]), 201),
                            (" ".join(["a"] + ["2*(a)"] * 200), 201), (" ".join(names), 61),
                            ("a 2*(2*(2*(2*(2*(a))))) b", 3), ("2*(2*(2*(2*(2*(a", 1), ("a b 2*(c", 3)):
            self.assertEqual(self.at(text), words)
        # A word that can't stand there goes first, whether it is ahead or behind.
        for text, at in ((" ".join(["a"] * 401 + ["B"]), 401), (" ".join(names + ["B", "a"]), 61),
                         ("2*(2*(2*(2*(2*(a))))) B c d", 1), ("a 2*(b C d", 2)):
            self.assertEqual(self.at(text), at)

    def test_told_rows_beyond_the_bounds_are_written(self):
        row = [((["a", "b"] * 150), 7)] * 1 + ["c"] * 99
        _, behind_it = halves(row, 301)
        text = show_row(behind_it)
        self.assertEqual(text.count("a"), 299)
        self.assertEqual(self.at(text), len(text.split(" ")))
        deep = "a"
        for _ in range(20):
            deep = [deep] if deep == "a" else [(deep, 2)]
        self.assertEqual(show_row(deep), "2*(" * 19 + "a" + ")" * 19)
        self.assertEqual(self.at(show_row(deep)), 1)

    def test_no_row(self):
        for row in (None, "a", 3, {"a": 1}, ["A"], [(["a"], 0)], [(["a"], MOST + 1)], [([], 2)], [["a"]],
                    [(["a"], True)], [("a", 2)]):
            self.assertRaises(NoRow, show_row, row)


class TestOthers(unittest.TestCase):
    def at(self, read, text):
        with self.assertRaises(NoText) as caught:
            read(text)
        return caught.exception.at

    def test_standings(self):
        self.assertEqual(show_standing(behind(list("dabcba"), 2)), "a:0 b:1 c:1")
        self.assertEqual(read_standing("a:0 b:1 c:1"), [("a", 0), ("b", 1), ("c", 1)])
        self.assertEqual(read_standing("b:7 a:7"), [("b", 7), ("a", 7)])
        for text, at in (("a", 0), ("a:", 0), (":1", 0), ("a:-1", 0), ("a:-0", 0), ("a:01", 0), ("a:1:1", 0),
                         ("a:1 b:0", 1), ("a:1 a:1", 1), ("a:0 b:1 a:2", 2), ("a:1 ", 1), ("a:1,b:2", 0),
                         ("a :1", 0), ("A:1", 0), ("a:0 b:+1", 1), ("a:0 b:\u0663", 1), ("a:0 b:1_0", 1)):
            self.assertEqual(self.at(read_standing, text), at, text)
        # Limits hang nothing.
        self.assertEqual(show_standing([("a", 10 ** 64)]), f"a:{10 ** 64}")
        for standing in (None, (), {}, 3, "a:0", [None], [["a", 0]], [("a",)], [("a", 0, 0)], [("a", -1)],
                         [("a", True)], [("a", "0")], [("A", 0)], [("a", 0), ("a", 0)], [("a", 1), ("b", 0)],
                         (("a", 0),), [(3, 0)], [("", 0)], [("abcdefghi", 0)]):
            self.assertRaises(NoStanding, show_standing, standing)

    def test_graces(self):
        self.assertEqual(show_graces({"b": -3, "a": 0, "ab": 10 ** 29}), f"a:0 ab:{10 ** 29} b:-3")
        self.assertEqual(list(read_graces("a:0 ab:1 b:-3").items()), [("a", 0), ("ab", 1), ("b", -3)])
        for text, at in (("a:-0", 0), ("a:--1", 0), ("a:-", 0), ("a:-01", 0), ("b:1 a:1", 1), ("a:1 a:2", 1),
                         ("a:1 c:1 b:1", 2), ("a", 0), ("a:1 b", 1), ("a:+1", 0), ("a:1 B:1", 1), ("a:- 1", 0)):
            self.assertEqual(self.at(read_graces, text), at, text)
        for graces in (None, [], 3, "a:1", {"A": 1}, {"a": None}, {"a": True}, {"a": "1"}, {3: 1}, [("a", 1)]):
            self.assertRaises(NoGraces, show_graces, graces)

    def test_depths(self):
        self.assertEqual(show_depths(depths(list("dabcba"))), "- - - - 1 2")
        self.assertEqual(read_depths("- 0 12 -"), [None, 0, 12, None])
        for text, at in (("-1", 0), ("--", 0), ("0 01", 1), ("- - x", 2), ("- ", 1), ("0,0", 0), ("\u0663", 0)):
            self.assertEqual(self.at(read_depths, text), at, text)
        for told in (None, (), (0,), 3, "-", [True], [-1], ["0"], {0: 1}, [[0]], [0.0]):
            self.assertRaises(NoDepths, show_depths, told)

    def test_numbers_of_any_number_of_figures(self):
        for many in (63, 64, 65, 128, 640, 4299, 4301, 9000):
            number = 10 ** many + 10 ** (many // 2) + 7
            figures = "1" + "0" * (many - many // 2 - 1) + "1" + "0" * (many // 2 - 1) + "7"
            self.assertEqual(show_depths([number, None]), figures + " -")
            self.assertEqual(read_depths("- " + figures), [None, number])
            self.assertEqual(show_graces({"a": -number}), "a:-" + figures)
            self.assertEqual(read_graces("a:-" + figures), {"a": -number})
            self.assertEqual(show_standing([("a", number)]), "a:" + figures)
            self.assertEqual(read_standing("a:" + figures), [("a", number)])
            self.assertEqual(read_history("grace a " + figures), [("grace", "a", number)])
            self.assertEqual(show_history([("grace", "a", -number)]), "grace a -" + figures)
            with self.assertRaises(NoText) as caught:
                read_row("a " + figures + "*(b)")
            self.assertEqual(caught.exception.at, 1)


class TestHistories(unittest.TestCase):
    def at(self, text):
        with self.assertRaises(NoText) as caught:
            read_history(text)
        return caught.exception.at

    def test_by_hand(self):
        history = [("ask", "a"), ("row", ["a", (["b"], 2)]), ("row", []), ("away", "a"), ("more",), ("fewer",),
                   ("grace", "b", -2), ("grace", "b", 0)]
        text = "ask a, row (a 2*(b)), row (), away a, more, fewer, grace b -2, grace b 0"
        self.assertEqual(show_history(history), text)
        self.assertEqual(read_history(text), history)
        clerk = clerk_of(2, history)
        self.assertEqual(show_history(clerk.history()), text)
        self.assertEqual(clerk_of(2, read_history(text)), clerk)
        # A row may be a list or a tuple; what can't be done is written all the same.
        self.assertEqual(show_history([("row", ("a", (("b",), 2))), ("away", "q")]), "row (a 2*(b)), away q")
        self.assertEqual(read_history("fewer, fewer, away q"), [("fewer",), ("fewer",), ("away", "q")])

    def test_faults_by_hand(self):
        for text, at in (("asks a", 0), ("ask", 0), ("ask ", 0), ("ask a b", 0), ("ask a,ask b", 0), ("ask a,", 0),
                         ("ask a, ", 1), (", ask a", 0), ("ask a,  more", 1), ("ask a, more ", 1), ("more, more 1", 1),
                         ("row", 0), ("row a", 0), ("row (a", 0), ("row a)", 0), ("more, row ( a)", 1),
                         ("row (a))", 0), ("row (2*(a)", 0), ("row (a) ", 0), ("row(a)", 0), ("ROW (a)", 0),
                         ("away A", 0), ("grace a", 0), ("grace a -0", 0), ("grace a 01", 0), ("grace a 1 1", 0),
                         ("more, grace A 1", 1), ("more, fewer, back", 2), ("row (a), row (b), row (C)", 2),
                         (f"more, row ({MOST + 1}*(a))", 1), ("more, row (2*(2*(2*(2*(2*(a))))))", 1),
                         ("row (" + " ".join(["a"] * 401) + ")", 0), ("ask a, row (a b", 1), ("row (), row (a,b)", 1),
                         ("row (" + " ".join(oracle.some_names(61)) + "), more", 0), ("more\n", 0)):
            self.assertEqual(self.at(text), at, text)

    def test_no_history(self):
        for history in (None, (), 3, "more", {}, [None], ["more"], [["more"]], [()], [("ask",)], [("ask", "A")],
                        [("ask", None)], [("row",)], [("row", None)], [("row", ["A"])], [("row", "a")],
                        [("row", [([], 1)])], [("away", 3)], [("more", 1)], [("fewer", None)], [("grace", "a")],
                        [("grace", "a", None)], [("grace", "a", True)], [("grace", "a", "1")], [("grace", None, 1)],
                        [("again",)], [("more",), ("ask", ["a"])], (("more",),), [(["ask"], "a")], [(3, "a")]):
            self.assertRaises(NoHistory, show_history, history)

    def test_a_clerks_history_beyond_the_bounds_is_written(self):
        clerk = Clerk(1)
        row = [(["a"], 2)] * 201
        clerk.ask_row(row)
        text = show_history(clerk.history())
        self.assertEqual(text, "row (" + " ".join(["2*(a)"] * 201) + ")")
        self.assertEqual(self.at("more, " + text), 1)

    def test_refusals_are_the_named_ones_alone(self):
        for call in (show_row, show_standing, show_graces, show_depths, show_history):
            with self.assertRaises(MissError) as caught:
                call(object())
            self.assertEqual(caught.exception.__dict__, {})


if __name__ == "__main__":
    unittest.main()
