"""A Ladder: all clerks without graces at once, who hear one ask after the other."""

from missclock.clerks import check_drawers
from missclock.depths import depth_behind, steps_of
from missclock.errors import Nothing, NoThing
from missclock.rows import check_thing, is_thing
from missclock.shelf import shelved

# In the ladder's own reckoning an endless depth is a number that no other depth reaches.
ENDLESS = 10 ** 60


class Ladder:
    """The asks that were heard, their depths, and of each thing that was not put away since,
    by its last ask, how many asks there were ahead of this.

    Each deed is kept with what this was ahead of it, so that it can be undone.
    """

    def __init__(self):
        self._asks = []
        self._depths = []
        self._last = {}
        self._deeds = []

    def ask(self, thing):
        """Hear an ask, and tell its depth."""
        check_thing(thing)
        before = self._last.get(thing)
        depth = ENDLESS
        if before is not None:
            depth = depth_behind(sorted(self._depths[before + 1:]), 0)
        self._deeds.append(("ask", thing, before))
        self._last[thing] = len(self._asks)
        self._asks.append(thing)
        self._depths.append(depth)
        return _told(depth)

    def put_away(self, thing):
        """Have a thing's next ask be as a first one."""
        if not is_thing(thing) or thing not in self._last:
            raise NoThing(thing)
        self._deeds.append(("away", thing, self._last[thing]))
        del self._last[thing]

    def back(self):
        """Undo the last deed that is not undone."""
        if not self._deeds:
            raise Nothing("there is nothing to undo")
        kind, thing, before = self._deeds.pop()
        if kind == "ask":
            self._asks.pop()
            self._depths.pop()
        if before is None:
            del self._last[thing]
        else:
            self._last[thing] = before

    def shelf(self):
        """Tell each thing, whichever was asked last ahead, with the depth that its ask would have."""
        depths = shelved(self._asks, self._told_depths())
        return [(thing, depth) for thing, depth in depths if thing in self._last]

    def held(self, drawers):
        """Tell what the clerk with so many drawers holds, in the shelf's order."""
        check_drawers(drawers)
        return [thing for thing, depth in self.shelf() if depth < drawers]

    def standing(self, drawers):
        """Tell the standing of the clerk with so many drawers."""
        check_drawers(drawers)
        ahead = [0]
        for depth in self._depths:
            ahead.append(ahead[-1] + (1 if depth >= drawers else 0))
        return [(thing, ahead[-1] - ahead[self._last[thing] + 1]) for thing in self.held(drawers)]

    def missed(self, drawers):
        """Tell how many asks the clerk with so many drawers missed."""
        check_drawers(drawers)
        return len([depth for depth in self._depths if depth >= drawers])

    def steps(self):
        """Tell how many misses all clerks had, by steps."""
        return steps_of(self._told_depths())

    def history(self):
        """Tell the deeds that are not undone."""
        return [(kind, thing) for kind, thing, _ in self._deeds]

    def twin(self):
        """Tell another ladder of the same history."""
        other = Ladder()
        other._asks = list(self._asks)
        other._depths = list(self._depths)
        other._last = dict(self._last)
        other._deeds = list(self._deeds)
        return other

    def __eq__(self, other):
        return isinstance(other, Ladder) and self.history() == other.history()

    def __len__(self):
        return len(self._deeds)

    def _told_depths(self):
        return [_told(depth) for depth in self._depths]


def _told(depth):
    """Tell a depth of the ladder's own reckoning as others know it."""
    return None if depth == ENDLESS else depth
