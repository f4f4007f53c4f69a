"""Clerks that live: deeds are done on them, and can be taken back; and a Watch of such clerks.

Lists and dicts that a Clerk or a Watch keeps are never changed, only replaced, so that
twins may share them.
"""

from missclock.clerks import hear
from missclock.errors import MissError, NoHistory, NoName, Nothing, Taken
from missclock.rows import check_near, check_row, check_thing, is_thing, laid_out, told_row
from missclock.states import after, age_in, first_state, is_deed, standing_in, told_deed


class Clerk:
    """A clerk with its deeds: of all that were not followed by others so many stand, the rest are taken back."""

    def __init__(self, drawers, *, graces=None, standing=None):
        self._states = [first_state(drawers, graces, standing)]
        self._deeds = []
        self._many = 0

    def ask(self, thing):
        """Ask for a thing, and tell whether it is a hit."""
        missed = self.missed()
        self._do(("ask", thing))
        return self.missed() == missed

    def ask_row(self, row):
        """Ask what a row asks, and tell how many of its asks are missed."""
        check_row(row)
        missed = self.missed()
        self._do(("row", told_row(row)))
        return self.missed() - missed

    def put_away(self, thing):
        """Take a thing out by hand."""
        self._do(("away", thing))

    def more(self):
        """Put an empty drawer behind the last one."""
        self._do(("more",))

    def fewer(self):
        """Put away the last drawer."""
        self._do(("fewer",))

    def grace(self, thing, by):
        """Give a thing this grace from now on."""
        self._do(("grace", thing, by))

    def drawers(self):
        """Tell how many drawers there are."""
        return self._state().room

    def graces(self):
        """Tell the graces that are not 0, in the order of names."""
        graces = self._state().known
        return {thing: graces[thing] for thing in sorted(graces) if graces[thing] != 0}

    def standing(self):
        """Tell the standing."""
        return standing_in(self._state())

    def age(self, thing):
        """Tell the age of a thing, or None."""
        check_thing(thing)
        return age_in(self._state(), thing)

    def asked(self):
        """Tell how many asks there were."""
        return self._state().heard

    def missed(self):
        """Tell how many asks were missed."""
        return self._state().now

    def back(self):
        """Take back the last deed that stands."""
        if self._many == 0:
            raise Nothing("there is nothing to take back")
        self._many -= 1

    def again(self):
        """Do again the last deed that was taken back."""
        if self._many == len(self._deeds):
            raise Nothing("there is nothing to do again")
        self._many += 1

    def history(self):
        """Tell the deeds that stand."""
        return [told_deed(deed) for deed in self._deeds[:self._many]]

    def twin(self):
        """Tell another clerk just so."""
        other = Clerk(self.drawers())
        other._states = self._states
        other._deeds = self._deeds
        other._many = self._many
        return other

    def __eq__(self, other):
        return (isinstance(other, Clerk) and self.drawers() == other.drawers()
                and self.graces() == other.graces() and self.standing() == other.standing())

    def __len__(self):
        return len(self._deeds[:self._many])

    def _state(self):
        return self._states[self._many]

    def _do(self, deed):
        """Do a deed, if it can be done: what was taken back is gone then."""
        state = after(self._state(), deed)
        self._states = self._states[:self._many + 1] + [state]
        self._deeds = self._deeds[:self._many] + [deed]
        self._many += 1


class Watch:
    """Clerks by names who hear the same, and what they were ahead of each deed that stands."""

    def __init__(self):
        self._clerks = {}
        self._past = []

    def add(self, name, clerk):
        """Have a twin of a clerk come."""
        if not is_thing(name):
            raise NoName("this is no name")
        if name in self._clerks:
            raise Taken("this name has a clerk")
        clerks = dict(self._clerks)
        clerks[name] = clerk.twin()
        self._become(clerks)

    def leave(self, name):
        """Have a clerk go."""
        self._check_name(name)
        self._become({other: self._clerks[other] for other in self._clerks if other != name})

    def ask(self, thing):
        """Ask all clerks for a thing, and tell the names of those who missed it."""
        check_thing(thing)
        clerks = self._twins()
        missed = [name for name in sorted(clerks) if not clerks[name].ask(thing)]
        self._become(clerks)
        return missed

    def ask_row(self, row):
        """Ask all clerks what a row asks, and tell by names how many asks each missed."""
        check_row(row)
        clerks = self._twins()
        missed = {name: clerks[name].ask_row(row) for name in sorted(clerks)}
        self._become(clerks)
        return missed

    def back(self):
        """Take back the last deed that stands."""
        if not self._past:
            raise Nothing("there is nothing to take back")
        self._clerks = self._past[-1]
        self._past = self._past[:-1]

    def names(self):
        """Tell the names."""
        return sorted(self._clerks)

    def clerk(self, name):
        """Tell a twin of a clerk."""
        return self._named(name).twin()

    def is_over(self, one, other):
        """Tell whether one clerk is over another one."""
        over = self._named(one)
        return _is_over(over, self._named(other))

    def overs(self):
        """Tell all pairs of unlike names of which the first one's clerk is over the second one's."""
        names = self.names()
        pairs = [(one, other) for one in names for other in names if one != other]
        return [pair for pair in pairs if _is_over(self._clerks[pair[0]], self._clerks[pair[1]])]

    def apart(self, one, other, row):
        """Tell the places at which just one of two clerks would miss, each with who would."""
        clerks = [self._named(one), self._named(other)]
        check_row(row)
        check_near(row)
        first, second = [_hits(clerk, laid_out(row)) for clerk in clerks]
        both = list(zip(first, second))
        return [(at, other if hit else one) for at, (hit, hit_too) in enumerate(both) if hit != hit_too]

    def lacking(self, one, other):
        """Tell the things that just the second clerk holds."""
        held = dict(self._named(one).standing())
        return sorted([thing for thing, _ in self._named(other).standing() if thing not in held])

    def _become(self, clerks):
        self._past = self._past + [self._clerks]
        self._clerks = clerks

    def _twins(self):
        return {name: self._clerks[name].twin() for name in self._clerks}

    def _check_name(self, name):
        if not is_thing(name) or name not in self._clerks:
            raise NoName("this is the name of no clerk")

    def _named(self, name):
        self._check_name(name)
        return self._clerks[name]


def clerk_of(drawers, history, *, graces=None, standing=None):
    """Tell a clerk on whom these deeds were done."""
    clerk = Clerk(drawers, graces=graces, standing=standing)
    if not isinstance(history, list):
        raise NoHistory("this is no history")
    for deed in history:
        if not is_deed(deed):
            raise NoHistory("this is no deed")
        try:
            clerk._do(told_deed(deed))
        except MissError:
            raise NoHistory("this deed can't be done")
    return clerk


def _is_over(one, other):
    """Tell whether a clerk holds all that another one does, no older, with no lesser limits."""
    ages = dict(one.standing())
    if not all([thing in ages and ages[thing] <= age for thing, age in other.standing()]):
        return False
    graces = one.graces()
    others = other.graces()
    # By so much the graces may lack; of what nobody named there is none.
    more = one.drawers() - other.drawers()
    lacks = [others.get(thing, 0) - graces.get(thing, 0) for thing in list(graces) + list(others)]
    return more >= max(lacks + [0])


def _hits(clerk, asks):
    """Tell of asks which a clerk would hit, were they heard now; nothing is done."""
    table = {thing: -age for thing, age in clerk.standing()}
    return hear(asks, table, 0, clerk.drawers(), clerk.graces())
