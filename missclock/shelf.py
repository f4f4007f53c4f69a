"""The shelf: what clerks with unlike many drawers, who begin with nothing, hold.

None of them has graces. The functions that take asks take those of a near row.
"""

from missclock.clerks import check_drawers, heard, lost
from missclock.depths import is_missed, reckoned
from missclock.errors import NoPlace
from missclock.kinds import is_whole
from missclock.rows import near


def shelf(row):
    """Tell each thing, whichever was asked last ahead, with the depth that its ask would have."""
    return _shelf(near(row))


def held(row, drawers):
    """Tell what a clerk holds behind the row, as it stands on the shelf."""
    asks = near(row)
    check_drawers(drawers)
    return [thing for thing, depth in _shelf(asks) if not is_missed(depth, drawers)]


def marks(row):
    """Tell how many things are held with one drawer, with two, and so on, up to all."""
    told = []
    many = 0
    for _, depth in _shelf(near(row)):
        told.extend([many] * (depth - len(told)))
        many += 1
    return told + [many] if many else []


def sizes(row, drawers):
    """Tell how many things a clerk holds behind each ask."""
    asks = near(row)
    check_drawers(drawers)
    return _sizes(asks, drawers)


def most_held(row, drawers):
    """Tell the most things that a clerk ever holds."""
    return max(sizes(row, drawers), default=0)


def stays(row, drawers):
    """Tell of each putting in the thing, where it was put in and where put away."""
    asks = near(row)
    check_drawers(drawers)
    gone = dict(lost(asks, drawers, {}, []))
    told = []
    begun = {}
    for place, hit in enumerate(heard(asks, drawers, {}, [])):
        if not hit:
            for thing in gone.get(place, []):
                told.append((begun[thing], thing, place))
                del begun[thing]
            begun[asks[place]] = place
    told.extend([(begun[thing], thing, None) for thing in begun])
    return [(thing, first, last) for first, thing, last in sorted(told)]


def fits(row, places):
    """Tell the greatest number of drawers that never holds more than so many things, or None."""
    asks = near(row)
    check_places(places)
    many = len(set(asks))
    if many <= places:
        return None
    # One drawer holds one thing at most, as many as there are things hold all at last.
    fit, unfit = 1, many
    while unfit - fit > 1:
        middle = (fit + unfit) // 2
        if max(_sizes(asks, middle)) <= places:
            fit = middle
        else:
            unfit = middle
    return fit


def check_places(places):
    """Refuse what is no number of places."""
    if not is_whole(places) or places < 1:
        raise NoPlace(places)


def shelved(asks, depths):
    """Tell the shelf of asks of these depths, going back from the last one.

    reached is the depth that an ask here would have, further how many of the asks
    passed so far are deeper than this: it grows by one where they are more than it.
    """
    told = {}
    counts = {}
    reached = 0
    further = 0
    for thing, depth in zip(asks[::-1], depths[::-1]):
        if thing not in told:
            told[thing] = reached
        if is_missed(depth, reached + 1):
            further += 1
            counts[depth] = counts.get(depth, 0) + 1
        if further > reached:
            reached += 1
            further -= counts.get(reached, 0)
    return [(thing, told[thing]) for thing in told]


def _sizes(asks, drawers):
    """Tell how many things a clerk holds behind each ask."""
    gone = dict(lost(asks, drawers, {}, []))
    told = []
    many = 0
    for place, hit in enumerate(heard(asks, drawers, {}, [])):
        if not hit:
            many += 1 - len(gone.get(place, []))
        told.append(many)
    return told


def _shelf(asks):
    """Tell the shelf of asks."""
    return shelved(asks, reckoned(asks, {}))
