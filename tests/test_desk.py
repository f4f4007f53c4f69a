"""Stage 13: the desk, points 90 to 92."""

import itertools
import time
import unittest

import oracle
from missclock.depths import depths, drawers_for
from missclock.desk import Desk
from missclock.errors import MissError, NoDrawers, NoForm, NoName, Nothing, NoThing, Taken, TooMany
from missclock.shelf import shelf
from missclock.texts import show_depths, show_row

MOST = 10 ** 30

# Names that are words of the desk are names like all others.
NAMES = ("b", "undo", "clerk", "abcdefgh", "ok", "aa")
LETTERS = ("a", "b", "c", "d", "hear", "ok")


def desk_of(*texts):
    desk = Desk()
    for text in texts:
        desk.say(text)
    return desk


def facts(desk):
    """All that a desk tells of its clerks."""
    names = desk.say("clerks")
    told = [names]
    for name in names.split(" ") if names != "none" else []:
        told += [desk.say(f"{word} {name}") for word in ("holds", "standing", "misses")]
    return told


def facts_due(plain):
    told = [" ".join(sorted(plain)) or "none"]
    for name in sorted(plain):
        held = plain[name].held
        told += [" ".join(thing for thing, _ in held) or "none",
                 " ".join(f"{thing}:{age}" for thing, age in held) or "none", str(plain[name].missed)]
    return told


class TestDeeds(unittest.TestCase):
    def test_drawn_sessions(self):
        """After each deed, each one refused and each one undone, all is told as plain clerks have it."""
        chance = oracle.chance_of(900)
        for _ in range(50):
            desk = Desk()
            states = [{}]
            for _ in range(50):
                plain = {name: clerk.twin() for name, clerk in states[-1].items()}
                text, due = self.some_deed(chance, plain)
                if text == "undo":
                    if len(states) == 1:
                        self.assertRaises(Nothing, desk.say, text)
                    else:
                        self.assertEqual(desk.say(text), "ok")
                        states = states[:-1]
                elif isinstance(due, str):
                    self.assertEqual(desk.say(text), due, text)
                    states.append(plain)
                else:
                    self.assertRaises(due, desk.say, text)
                self.assertEqual(facts(desk), facts_due(states[-1]))

    def some_deed(self, chance, plain):
        """A deed, done on plain clerks, with its answer, or the class of its refusal."""
        name, thing = chance.choice(NAMES), chance.choice(LETTERS)
        word = chance.choice(("clerk", "clerk", "drop", "hear", "hear", "ask", "ask", "away", "more", "fewer", "undo"))
        if word == "undo":
            return "undo", None
        if word == "clerk":
            drawers = chance.randint(0, 4)
            if name in plain or drawers == 0:
                return f"clerk {name} {drawers}", Taken if name in plain else NoDrawers
            plain[name] = oracle.PlainClerk(drawers)
            return f"clerk {name} {drawers}", "ok"
        if word in ("hear", "ask"):
            row = oracle.some_row(chance, LETTERS, 2) if chance.random() < 0.9 else []
            asks = [thing] if word == "ask" else oracle.lay(row)
            missed = [(one, plain[one].hear(asks).count(False)) for one in sorted(plain)]
            if word == "hear":
                return f"hear {show_row(row)}", " ".join(f"{one}:{many}" for one, many in missed) or "none"
            return f"ask {thing}", " ".join(f"{one}:{'miss' if many else 'hit'}" for one, many in missed) or "none"
        text = f"{word} {name} {thing}" if word == "away" else f"{word} {name}"
        return text, self.of_one(plain, word, name, thing)

    def of_one(self, plain, word, name, thing):
        if name not in plain:
            return NoName
        if word == "drop":
            del plain[name]
        elif word == "away":
            if thing not in dict(plain[name].held):
                return NoThing
            plain[name].put_away(thing)
        elif word == "fewer" and plain[name].drawers == 1:
            return NoDrawers
        else:
            plain[name].limited(plain[name].drawers + (1 if word == "more" else -1))
        return "ok"

    def test_by_hand(self):
        desk = Desk()
        for text, due in (("clerks", "none"), ("hear a b", "none"), ("ask a", "none"), ("hear ", "none"),
                          ("clerk b 2", "ok"), ("clerk a 1", "ok"), ("clerks", "a b"), ("holds a", "none"),
                          ("standing a", "none"), ("misses a", "0"), ("hear ", "a:0 b:0"), ("hear a b a", "a:3 b:2"),
                          ("ask b", "a:miss b:hit"), ("ask a", "a:miss b:hit"), ("holds b", "a b"), ("standing b", "a:0 b:0"),
                          ("misses a", "5"), ("misses b", "2"), ("away b b", "ok"), ("holds b", "a"), ("more a", "ok"),
                          ("ask c", "a:miss b:miss"), ("standing a", "c:0 a:1"), ("fewer a", "ok"), ("standing a", "c:0"),
                          ("undo", "ok"), ("standing a", "c:0 a:1"), ("drop a", "ok"), ("clerks", "b"), ("undo", "ok"),
                          ("clerks", "a b"), ("standing a", "c:0 a:1"), ("undo", "ok"), ("standing a", "a:0")):
            self.assertEqual(desk.say(text), due, text)

    def test_undo(self):
        desk = Desk()
        told = []
        for text in ("ask q", "hear 2*(q)", "clerk a 1", "clerk b 3", "hear x y", "drop a", "ask x", "clerk a 2",
                     "away b y", "more a", "fewer b", "drop b", "hear ", "drop a", "ask z"):
            told.append(facts(desk))
            desk.say(text)
        while told:
            self.assertEqual(desk.say("undo"), "ok")
            self.assertEqual(facts(desk), told.pop())
        self.assertRaises(Nothing, desk.say, "undo")
        self.assertEqual(facts(desk), ["none"])

    def test_far_rows(self):
        desk = desk_of("clerk a 1", "clerk b 4")
        self.assertEqual(desk.say(f"hear {MOST}*({MOST}*({MOST}*({MOST}*(a b c))))"), f"a:{3 * MOST ** 4} b:3")
        self.assertEqual(desk.say("misses a"), str(3 * MOST ** 4))
        self.assertEqual(desk.say("standing b"), "c:0 b:0 a:0")

    def test_more_drawers_never_answer_more(self):
        chance = oracle.chance_of(920)
        for _ in range(30):
            desk = desk_of(*[f"clerk {name} {drawers}" for drawers, name in enumerate("abcdef", start=1)])
            for _ in range(20):
                answer = desk.say("hear " + show_row(oracle.some_row(chance, LETTERS, 2)))
                missed = [int(piece.split(":")[1]) for piece in answer.split(" ")]
                self.assertEqual(missed, sorted(missed, reverse=True))
                answer = desk.say(f"ask {chance.choice(LETTERS)}")
                self.assertEqual([piece.split(":")[1] for piece in answer.split(" ")],
                                 sorted([piece.split(":")[1] for piece in answer.split(" ")], reverse=True))

    def test_long_sessions(self):
        chance = oracle.chance_of(901)
        began = time.process_time()
        desk = desk_of(*[f"clerk {name} {at + 3}" for at, name in enumerate("abcdefghijkl")])
        names = oracle.some_names(60)
        for at in range(300):
            desk.say(f"ask {chance.choice(names)}" if at % 10 else f"hear {MOST}*({' '.join(names)})")
        for _ in range(312):
            desk.say("undo")
        self.assertEqual(desk.say("clerks"), "none")
        self.assertLess(time.process_time() - began, 20)


class TestAnswers(unittest.TestCase):
    def test_of_near_rows(self):
        chance = oracle.chance_of(910)
        desk = Desk()
        rows = list(oracle.all_rows(3)) + [oracle.some_row(chance, LETTERS, 2) for _ in range(150)]
        for row in rows:
            asks = oracle.lay(row)
            if len(asks) > 400:
                continue
            text = show_row(row)
            self.assertEqual(desk.say(f"depths {text}"), show_depths(depths(asks)) or "none")
            due = " ".join(f"{thing}:{depth}" for thing, depth in shelf(asks)) or "none"
            self.assertEqual(desk.say(f"shelf {text}"), due)
            for most in (0, 1, 2, 5, len(asks), MOST):
                fewest = drawers_for(asks, most)
                self.assertEqual(desk.say(f"least {most} {text}"), "never" if fewest is None else str(fewest))

    def test_by_hand(self):
        desk = Desk()
        for text, due in (("depths d a b c b a", "- - - - 1 2"), ("shelf d a b c b a", "a:0 b:1 c:1 d:3"),
                          ("least 4 d a b c b a", "3"), ("least 3 d a b c b a", "never"), ("least 0 ", "1"),
                          ("least 0 a", "never"), ("depths ", "none"), ("shelf ", "none"), ("depths 2*(a b)", "- - 1 1"),
                          ("least " + "9" * 31 + " a", "1"), ("shelf depths shelf", "shelf:0 depths:1")):
            self.assertEqual(desk.say(text), due, text)

    def test_near_alone(self):
        desk = Desk()
        for word in ("depths", "shelf", "least 3"):
            for row, many in (("401*(a)", 401), (f"{MOST}*(a b)", 2 * MOST)):
                with self.assertRaises(TooMany) as caught:
                    desk.say(f"{word} {row}")
                self.assertEqual(caught.exception.many, many)
            desk.say(f"{word} 400*(a)")

    def test_questions_are_no_deeds(self):
        desk = desk_of("clerk a 1", "ask x")
        for text in ("clerks", "holds a", "standing a", "misses a", "depths a", "shelf a", "least 1 a"):
            desk.say(text)
        desk.say("undo")
        self.assertEqual(facts(desk), ["a", "none", "none", "0"])


class TestRefused(unittest.TestCase):
    def test_no_form_ahead_of_all(self):
        desk = desk_of("clerk a 1", "ask x")
        kept = facts(desk)
        texts = [None, 3, True, [], ["ask", "a"], (), {}, b"ask a", 1.0, object(), "", " ", "a", "Ask a", "ask", "ask ",
                 "ask  a", " ask a", "ask a ", "ask a b", "ask A", "ask a\n", "ask abcdefghi", "ask a,", "undo ",
                 "undo 1", "undo a", "Undo", "clerks ", "clerks a", "clerk", "clerk b", "clerk b ", "clerk b  1",
                 "clerk b 01", "clerk b -1", "clerk b +1", "clerk b 1 ", "clerk b 1 1", "clerk B 1", "clerk a x",
                 "clerk b \u0663", "clerk b " + "9" * 32, "clerk a " + "1" * 32, "clerk b 1.0", "clerk  1", "drop",
                 "drop ", "drop a b", "drop A", "hear", "hear  ", "hear  a", "hear a ", "hear A", "hear 2*(a",
                 "hear 0*(a)", f"hear {MOST + 1}*(a)", "hear 2*()", "hear " + " ".join(["a"] * 401),
                 "hear 2*(2*(2*(2*(2*(a)))))", "hear " + " ".join(oracle.some_names(61)), "away", "away a", "away a ",
                 "away a x y", "away a X", "away A x", "away  x", "away zz X", "more", "more ", "more a 1", "more A",
                 "fewer", "fewer a a", "holds", "holds ", "holds A", "holds a ", "standing", "standing a b", "misses",
                 "misses a:", "depths", "depths  ", "depths A", "shelf", "shelf a  b", "least", "least ", "least 3",
                 "least 03 a", "least a 3", "least -1 a", "least 3 A", "least  a", "least " + "1" * 32 + " a",
                 "least 3  ", "asks a", "hears a", "say a", "ask\ta", "clerk zz 0 "]
        for text in texts:
            with self.assertRaises(NoForm) as caught:
                desk.say(text)
            self.assertEqual(caught.exception.__dict__, {})
            self.assertEqual(facts(desk), kept, text)
        # What was refused is no deed.
        desk.say("undo")
        self.assertEqual(desk.say("misses a"), "0")

    def test_then_no_name(self):
        desk = desk_of("clerk a 1")
        for text in ("drop b", "away b x", "more b", "fewer b", "holds b", "standing b", "misses b", "holds clerks"):
            self.assertRaises(NoName, desk.say, text)
        self.assertRaises(NoForm, desk.say, "away b X")

    def test_then_as_the_clerk_refuses(self):
        desk = desk_of("clerk a 1", f"clerk b {MOST}", "ask x")
        kept = facts(desk)
        self.assertRaises(NoDrawers, desk.say, "fewer a")
        self.assertRaises(NoDrawers, desk.say, "more b")
        with self.assertRaises(NoThing) as caught:
            desk.say("away a y")
        self.assertEqual(caught.exception.thing, "y")
        self.assertEqual(facts(desk), kept)

    def test_clerks_who_come(self):
        desk = desk_of(*[f"clerk {name} 1" for name in "abcdefghijk"])
        for drawers in (0, MOST + 1, 9 * MOST, 10 ** 31 - 1):
            self.assertRaises(NoDrawers, desk.say, f"clerk l {drawers}")
            self.assertRaises(Taken, desk.say, f"clerk a {drawers}")
            self.assertRaises(NoForm, desk.say, f"clerk a 0{drawers}")
        self.assertEqual(desk.say(f"clerk l {MOST}"), "ok")
        for drawers in (0, 1, MOST + 1):
            with self.assertRaises(TooMany) as caught:
                desk.say(f"clerk m {drawers}")
            self.assertEqual(caught.exception.many, 13)
            self.assertRaises(Taken, desk.say, f"clerk a {drawers}")
        desk.say("drop a")
        self.assertEqual(desk.say("clerk m 1"), "ok")
        self.assertRaises(TooMany, desk.say, "clerk a 1")
        desk.say("undo")
        desk.say("undo")
        self.assertRaises(Taken, desk.say, "clerk a 1")

    def test_all_short_texts_of_some_words(self):
        """Nothing but the named refusals, whatever is said; and what is refused changes nothing."""
        desk = desk_of("clerk a 2", "hear a b a")
        words = ("clerk", "ask", "hear", "least", "undo", "more", "holds", "a", "b", "3", "2*(a", "b)", "")
        for many in range(4):
            for text in itertools.product(words, repeat=many):
                kept = facts(desk)
                try:
                    answer = desk.say(" ".join(text))
                except MissError as refusal:
                    self.assertIn(type(refusal), (NoForm, NoName, Taken, Nothing))
                    self.assertEqual(facts(desk), kept)
                    continue
                self.assertIs(type(answer), str)
                if text[0] not in ("least", "holds", "undo"):
                    desk.say("undo")
                    self.assertEqual(facts(desk), kept)


if __name__ == "__main__":
    unittest.main()
