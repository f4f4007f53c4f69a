"""Reminders judged: plans, and papers that no fewer reminders do."""

from missclock.clerks import heard, limit_of
from missclock.depths import are_places
from missclock.kinds import is_whole
from missclock.reminders import looked_wished, windows_of


def holds(row, drawers, wished, thing, *, graces=None):
    """Tell of anything whether it is a plan that holds."""
    asks, known = looked_wished(row, drawers, wished, graces)
    if not _is_plan(thing, wished, len(asks)):
        return False
    reminded = _put_in(asks, thing)
    hits = heard([name for name, _ in reminded], drawers, known, [])
    kept = {name: True for name in wished}
    begun = {}
    for (name, by_plan), hit in zip(reminded, hits):
        if by_plan and name not in begun:
            return False
        if name in kept and name in begun and not hit:
            return False
        begun[name] = True
    return True


def shows_wanted(row, drawers, wished, thing, *, graces=None):
    """Tell of anything how many reminders it shows to be wanted, or None."""
    asks, known = looked_wished(row, drawers, wished, graces)
    if not isinstance(thing, list):
        return None
    windows = windows_of(asks, drawers, wished, known)
    latest = {}
    for stretch in thing:
        if not isinstance(stretch, tuple) or len(stretch) != 2:
            return None
        name, places = stretch
        if not isinstance(name, str) or name not in windows or not are_places(places, len(asks)):
            return None
        limit = limit_of(name, drawers, known)
        if limit < 2 or len(places) != limit or not _within_one(places, windows[name]):
            return None
        if places[0] < latest.get(name, 0):
            return None
        latest[name] = places[-1]
    return len(thing)


def _is_plan(thing, wished, many):
    """Tell whether anything is a list of reminders, told by places that never fall, of wished things."""
    if not isinstance(thing, list):
        return False
    least = 0
    for reminder in thing:
        if not isinstance(reminder, tuple) or len(reminder) != 2:
            return False
        place, name = reminder
        if not is_whole(place) or not least <= place < many:
            return False
        if not isinstance(name, str) or name not in wished:
            return False
        least = place
    return True


def _put_in(asks, plan):
    """Tell all asks, those of the plan too, each with whether it is one of these."""
    told = []
    at = 0
    for place, thing in enumerate(asks):
        while at < len(plan) and plan[at][0] == place:
            told.append((plan[at][1], True))
            at += 1
        told.append((thing, False))
    return told


def _within_one(places, windows):
    """Tell whether rising places, one at least, all are in one of these windows."""
    for window in windows:
        if places[0] in window:
            return all([place in window for place in places])
    return False
