"""States: what a living clerk is at one time, and what the deeds done on it make of it.

No state is ever changed: each deed makes another one. A deed is such a tuple as stands
in a history.
"""

from missclock.clerks import check_drawers, checked_graces, checked_standing, limit_of, standing_of
from missclock.errors import NoGraces, NoThing
from missclock.kinds import is_whole
from missclock.rounds import Round, begin, hear_whole
from missclock.rows import check_thing, is_row, is_thing, last_of, told_row


class State:
    """How many drawers there are, the graces, and how many asks there were and were missed.

    The table has of things, the one asked last standing last, how many misses there were by
    their last ask. Who is no younger than its limit may stand in it, but isn't there.
    """

    def __init__(self, room, known, table, heard, now):
        self.room = room
        self.known = known
        self.table = table
        self.heard = heard
        self.now = now


def first_state(drawers, graces, standing):
    """Tell the state in which a clerk begins."""
    check_drawers(drawers)
    known = checked_graces(graces)
    start = checked_standing(standing, drawers, known)
    return State(drawers, dict(known), {thing: -age for thing, age in start[::-1]}, 0, 0)


def age_in(state, thing):
    """Tell the age of a thing, or None."""
    if thing not in state.table:
        return None
    age = state.now - state.table[thing]
    return age if age < limit_of(thing, state.room, state.known) else None


def standing_in(state):
    """Tell the standing."""
    latest = list(state.table)[::-1]
    return standing_of(latest, state.table, state.now, state.room, state.known)


def is_deed(deed):
    """Tell whether anything has the form of a deed."""
    if not isinstance(deed, tuple) or len(deed) == 0:
        return False
    kind = deed[0]
    if not isinstance(kind, str):
        return False
    if kind in ("more", "fewer"):
        return len(deed) == 1
    if kind in ("ask", "away"):
        return len(deed) == 2 and is_thing(deed[1])
    if kind == "row":
        return len(deed) == 2 and is_row(deed[1])
    return kind == "grace" and len(deed) == 3 and is_thing(deed[1]) and is_whole(deed[2])


def told_deed(deed):
    """Tell a deed as a new one, a row in lists."""
    if deed[0] == "row":
        return ("row", told_row(deed[1]))
    return deed


def after(state, deed):
    """Tell the state behind a deed, whose row, if it has one, is a right one."""
    kind = deed[0]
    if kind == "ask":
        return _after_ask(state, deed[1])
    if kind == "row":
        return _after_row(state, deed[1])
    if kind == "away":
        return _after_away(state, deed[1])
    if kind == "more":
        return _limited(state, state.room + 1, state.known)
    if kind == "fewer":
        return _limited(state, state.room - 1, state.known)
    return _after_grace(state, deed[1], deed[2])


def _after_ask(state, thing):
    check_thing(thing)
    missed = state.now if age_in(state, thing) is not None else state.now + 1
    table = _without(state.table, thing)
    table[thing] = missed
    return State(state.room, state.known, table, state.heard + 1, missed)


def _after_row(state, row):
    told = Round(row)
    begin(told, state.room, state.known)
    table = _held(state)
    _, missed = hear_whole(told, table, state.now)
    for thing in last_of(row)[::-1]:
        now = table[thing]
        del table[thing]
        table[thing] = now
    return State(state.room, state.known, table, state.heard + told.asks, missed)


def _after_away(state, thing):
    if not is_thing(thing) or age_in(state, thing) is None:
        raise NoThing(thing)
    return State(state.room, state.known, _without(state.table, thing), state.heard, state.now)


def _after_grace(state, thing, by):
    check_thing(thing)
    if not is_whole(by):
        raise NoGraces("this is no grace")
    graces = dict(state.known)
    graces[thing] = by
    return _limited(state, state.room, graces)


def _limited(state, drawers, graces):
    """Tell the state with other limits: what was gone, and what is by these, is there no more."""
    check_drawers(drawers)
    return State(drawers, graces, _held(state), state.heard, state.now)


def _held(state):
    """Tell a new table of the things that are there alone."""
    return {thing: state.table[thing] for thing in state.table if age_in(state, thing) is not None}


def _without(table, thing):
    """Tell a new table without a thing."""
    less = dict(table)
    if thing in less:
        del less[thing]
    return less
