"""Depths told back: the row that has just these depths."""

from missclock.depths import are_depths, depth_behind
from missclock.errors import NoDepths, TooMany

LETTERS = "abcdefghij"
MOST_DEPTHS = 10

# An endless depth is reckoned with as a number that no other depth of so few asks reaches.
ENDLESS = 10


def row_with(depths):
    """Tell the least row with just these depths, or None."""
    if not are_depths(depths):
        raise NoDepths("these are no depths")
    if len(depths) > MOST_DEPTHS:
        raise TooMany(len(depths))
    return _led_on([], depths)


def _led_on(row, depths):
    """Tell the least row with these depths that begins so, or None."""
    place = len(row)
    if place == len(depths):
        return row
    for thing in _fitting(row, depths):
        told = _led_on(row + [thing], depths)
        if told is not None:
            return told
    return None


def _fitting(row, depths):
    """Tell the things whose ask behind the row has the depth that is due there.

    This hangs on the depths since its last ask alone, wherever that is.
    """
    due = depths[len(row)]
    known = LETTERS[:len(set(row))]
    if due is None:
        return [LETTERS[len(known)]]
    reckoned = [ENDLESS if depth is None else depth for depth in depths[:len(row)]]
    told = []
    for thing in known:
        many = row[::-1].index(thing)
        if depth_behind(sorted(reckoned[len(row) - many:]), 0) == due:
            told.append(thing)
    return told
