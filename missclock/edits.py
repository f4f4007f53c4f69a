"""Edits: what one ask more, one less, or a thing put away by hand changes.

Changes are a list of tuples (place, depth, other), the places as they were.
"""

from missclock.clerks import check_drawers, checked_graces, hear
from missclock.depths import reckoned
from missclock.errors import TooMany
from missclock.rows import check_place, check_row, check_thing, count_asks, laid_out, near

MOST_TRIED = 40


def put_in(row, place, thing, *, graces=None):
    """Tell the depth of the thing asked once more, ahead of a place, and what it changes."""
    asks = near(row)
    check_place(place, len(asks) + 1)
    check_thing(thing)
    known = checked_graces(graces)
    told = reckoned(asks[:place] + [thing] + asks[place:], known)
    return told[place], _changes(reckoned(asks, known), told[:place] + told[place + 1:])


def left_out(row, place, *, graces=None):
    """Tell what changes where the ask at a place is left out."""
    asks = near(row)
    check_place(place, len(asks))
    known = checked_graces(graces)
    told = reckoned(asks, known)
    other = reckoned(asks[:place] + asks[place + 1:], known)
    return _changes(told, other[:place] + [told[place]] + other[place:])


def exchanged(row, place, *, graces=None):
    """Tell what changes where the ask at a place and the next one are exchanged."""
    asks = near(row)
    check_place(place, len(asks) - 1)
    known = checked_graces(graces)
    one, other = asks[place:place + 2]
    if one == other:
        return []
    told = reckoned(asks[:place] + [other, one] + asks[place + 2:], known)
    back = told[:place] + [told[place + 1], told[place]] + told[place + 2:]
    return _changes(reckoned(asks, known), back)


def put_away(row, place, thing, *, graces=None):
    """Tell what changes where the thing is put away by hand, ahead of a place."""
    asks = near(row)
    check_place(place, len(asks) + 1)
    check_thing(thing)
    known = checked_graces(graces)
    # Who is asked for as if for the first time is asked by a name that no thing has.
    renamed = ["" if other == thing else other for other in asks[place:]]
    named = {other: known[other] for other in known}
    named[""] = known.get(thing, 0)
    return _changes(reckoned(asks, known), reckoned(asks[:place] + renamed, named))


def best_put_in(row, drawers, *, graces=None):
    """Tell the ask put in that makes the misses fewest: the least (misses, place, thing)."""
    check_row(row)
    many = count_asks(row)
    if many > MOST_TRIED:
        raise TooMany(many)
    check_drawers(drawers)
    known = checked_graces(graces)
    asks = laid_out(row)
    table = {}
    missed = 0
    tried = []
    for place in range(len(asks) + 1):
        rest = asks[place:]
        for thing in sorted(set(asks)):
            hits = hear([thing] + rest, dict(table), missed, drawers, known)
            tried.append((missed + hits.count(False), place, thing))
        missed += hear(rest[:1], table, missed, drawers, known).count(False)
    return min(tried, default=None)


def _changes(told, other):
    """Tell the places at which two lists of depths are not alike, with both depths."""
    both = list(zip(told, other))
    return [(at, depth, new) for at, (depth, new) in enumerate(both) if depth != new]
