"""A desk: clerks by names, with whom one deals in words."""

from missclock.depths import depths, drawers_for
from missclock.errors import NoForm, NoName, Nothing, Taken, TooMany
from missclock.figures import by_figures, number_of
from missclock.rows import is_thing
from missclock.shelf import shelf
from missclock.states import after, first_state, standing_in
from missclock.texts import row_in, show_depths, show_standing

MOST_CLERKS = 12
MOST_FIGURES = 31

# What stands behind a word: n a name or a thing, p a number, r a row, with which the text ends.
DEEDS = {"clerk": "np", "drop": "n", "hear": "r", "ask": "n", "away": "nn", "more": "n", "fewer": "n", "undo": ""}
ASKED = {"clerks": "", "holds": "n", "standing": "n", "misses": "n", "depths": "r", "shelf": "r", "least": "pr"}


class Desk:
    """States of clerks by names, and what these were ahead of each deed that is not undone."""

    def __init__(self):
        self._states = {}
        self._past = []

    def say(self, text):
        """Do what a text says, or tell what it asks for."""
        word, told = _said(text)
        if word in ASKED:
            return self._answer(word, told)
        if word == "undo":
            return self._undo()
        states, answer = self._behind(word, told)
        self._past.append(self._states)
        self._states = states
        return answer

    def _answer(self, word, told):
        if word == "clerks":
            return " ".join(sorted(self._states)) or "none"
        if word == "least":
            most, row = told
            fewest = drawers_for(row, most)
            return "never" if fewest is None else by_figures(fewest)
        if word == "depths":
            return show_depths(depths(told[0])) or "none"
        if word == "shelf":
            return " ".join([f"{thing}:{depth}" for thing, depth in shelf(told[0])]) or "none"
        state = self._named(told[0])
        if word == "misses":
            return by_figures(state.now)
        standing = standing_in(state)
        if word == "standing":
            return show_standing(standing) or "none"
        return " ".join([thing for thing, _ in standing]) or "none"

    def _behind(self, word, told):
        """Tell the states behind a deed, and its answer."""
        if word in ("hear", "ask"):
            return self._heard(word, told[0])
        if word == "clerk":
            return self._with(told[0], self._come(told[0], told[1])), "ok"
        state = self._named(told[0])
        if word == "drop":
            return {name: self._states[name] for name in self._states if name != told[0]}, "ok"
        return self._with(told[0], after(state, tuple([word] + told[1:]))), "ok"

    def _heard(self, word, asked):
        """Tell the states of those who heard a row, or one ask, and what each says."""
        deed = ("row", asked) if word == "hear" else ("ask", asked)
        states = {name: after(self._states[name], deed) for name in sorted(self._states)}
        said = []
        for name in states:
            missed = states[name].now - self._states[name].now
            if word == "hear":
                said.append(f"{name}:{by_figures(missed)}")
            else:
                said.append(f"{name}:miss" if missed else f"{name}:hit")
        return states, " ".join(said) or "none"

    def _come(self, name, drawers):
        """Tell the state of a new clerk."""
        if name in self._states:
            raise Taken("this name has a clerk")
        if len(self._states) == MOST_CLERKS:
            raise TooMany(MOST_CLERKS + 1)
        return first_state(drawers, None, None)

    def _with(self, name, state):
        """Tell the states, this name's being this one."""
        states = dict(self._states)
        states[name] = state
        return states

    def _named(self, name):
        if name not in self._states:
            raise NoName("this is the name of no clerk")
        return self._states[name]

    def _undo(self):
        if not self._past:
            raise Nothing("there is nothing to undo")
        self._states = self._past.pop()
        return "ok"


def _said(text):
    """Tell the word that a text begins with, and the list of what it says behind it."""
    if not isinstance(text, str):
        raise NoForm("this is no text")
    word, blank, rest = text.partition(" ")
    form = DEEDS.get(word, ASKED.get(word))
    if form is None:
        raise NoForm("no such word is known here")
    told = []
    for kind in form:
        if not blank:
            raise NoForm("there is not enough said")
        piece = rest
        blank = ""
        if kind != "r":
            piece, blank, rest = rest.partition(" ")
        told.append(_read(kind, piece))
    if blank:
        raise NoForm("there is too much said")
    return word, told


def _read(kind, piece):
    """Tell the row, number or name that a piece of a text writes."""
    if kind == "r":
        told, _ = row_in(piece)
    elif kind == "p":
        told = number_of(piece) if len(piece) <= MOST_FIGURES else None
    else:
        told = piece if is_thing(piece) else None
    if told is None:
        raise NoForm("this is not of the form that is due")
    return told
