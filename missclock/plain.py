"""The plain rule, which keeps those last asked for, beside the clerk, who begins with nothing."""

from missclock.clerks import check_drawers, heard
from missclock.depths import is_missed
from missclock.rows import near
from missclock.shelf import check_places


def plain_depths(row):
    """Tell of each ask how many unlike others were asked since, None of a first one."""
    return _plain(near(row))


def plain_misses(row, places):
    """Tell the places of the misses of the plain rule with so many places."""
    asks = near(row)
    check_places(places)
    return [at for at, depth in enumerate(_plain(asks)) if is_missed(depth, places)]


def spared(row, drawers):
    """Tell the places that the clerk hits and the plain rule with as many places misses."""
    asks = near(row)
    check_drawers(drawers)
    hits = heard(asks, drawers, {}, [])
    return [at for at, depth in enumerate(_plain(asks)) if hits[at] and is_missed(depth, drawers)]


def like_places(row, drawers):
    """Tell the fewest places with which the plain rule misses none that the clerk hits."""
    asks = near(row)
    check_drawers(drawers)
    hits = heard(asks, drawers, {}, [])
    # What is hit from nothing was asked ahead: no such depth is endless.
    return max([depth + 1 for depth, hit in zip(_plain(asks), hits) if hit], default=0)


def _plain(asks):
    """Tell the plain depths of asks, by a list of the things, the one asked last first."""
    told = []
    latest = []
    for thing in asks:
        if thing in latest:
            depth = latest.index(thing)
            del latest[depth]
        else:
            depth = None
        told.append(depth)
        latest.insert(0, thing)
    return told
