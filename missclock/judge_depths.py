"""Depths judged: lists of depths, and papers that an ask is missed, or hit."""

from missclock.clerks import check_drawers, checked_graces, limit_of
from missclock.depths import are_places, reckoned
from missclock.kinds import is_whole
from missclock.rows import asked_last, check_place, near


def depth_fault(row, thing, *, graces=None):
    """Tell of anything the first place at which it isn't the list of depths, None if it is.

    Ahead of the first fault the numbers are the depths themselves, so that what
    they ask of the next one is just its depth.
    """
    asks = near(row)
    told = reckoned(asks, checked_graces(graces))
    if not isinstance(thing, list):
        return 0
    for place, (depth, other) in enumerate(zip(told, thing)):
        if not _is_depth(other, depth):
            return place
    if len(thing) == len(told):
        return None
    return min(len(thing), len(told))


def misses_shown(row, drawers, place, thing, *, graces=None):
    """Tell of anything whether it is a paper that the ask is missed."""
    asks, known = _looked(row, drawers, place, graces)
    if not _ends_at(thing, place, len(asks)):
        return False
    for at, since, listed in _followed(asks, thing):
        if since is not None and listed < limit_of(asks[at], drawers, known):
            return False
    return True


def hits_shown(row, drawers, place, thing, *, graces=None):
    """Tell of anything whether it is a paper that the ask is hit."""
    asks, known = _looked(row, drawers, place, graces)
    if not _ends_at(thing, place, len(asks)):
        return False
    for at, since, listed in _followed(asks, thing):
        if since is None or since - listed >= limit_of(asks[at], drawers, known):
            return False
    return True


def _is_depth(thing, depth):
    """Tell whether anything is this depth."""
    if depth is None:
        return thing is None
    return is_whole(thing) and thing == depth


def _looked(row, drawers, place, graces):
    """Tell a near row's asks and graces, when all is looked at."""
    asks = near(row)
    check_drawers(drawers)
    check_place(place, len(asks))
    return asks, checked_graces(graces)


def _ends_at(thing, place, many):
    """Tell whether anything is a rising list of some of so many places, this one the last."""
    return are_places(thing, many) and len(thing) > 0 and thing[-1] == place


def _followed(asks, places):
    """Tell of each of the places: itself, and of the asks since its thing's last ask
    how many they are, None of a first one, and how many of them are in the places.
    """
    before = asked_last(asks)
    ahead = _counted_ahead(places, len(asks))
    told = []
    for at in places:
        if before[at] is None:
            told.append((at, None, 0))
        else:
            first = before[at] + 1
            told.append((at, at - first, ahead[at] - ahead[first]))
    return told


def _counted_ahead(places, many):
    """Tell for each of so many places how many of the rising places are ahead of it."""
    told = []
    passed = 0
    for at in range(many):
        told.append(passed)
        if passed < len(places) and places[passed] == at:
            passed += 1
    return told
