"""Papers: why an ask is missed, or hit, told so that others can judge it.

Whoever is in such a paper brings in a run of the misses, or hits, that ends just
ahead of it. So the whole paper is one such run, and each place is followed once.
"""

from missclock.clerks import check_drawers, checked_graces, heard, limit_of, missed_places
from missclock.rows import asked_last, check_place, near


def why_missed(row, drawers, place, *, graces=None):
    """Tell a paper that the ask is missed, or None."""
    asks, known, hits = _heard(row, drawers, place, graces)
    if hits[place]:
        return None
    missed = missed_places(hits)
    before = asked_last(asks)
    wanted = []
    for at in missed:
        limit = limit_of(asks[at], drawers, known)
        wanted.append(0 if before[at] is None else max(0, limit))
    return _run(missed, wanted, place)


def why_hit(row, drawers, place, *, graces=None):
    """Tell a paper that the ask is hit, or None."""
    asks, _, hits = _heard(row, drawers, place, graces)
    if not hits[place]:
        return None
    before = asked_last(asks)
    ahead = []
    many = 0
    for hit in hits:
        ahead.append(many)
        if hit:
            many += 1
    hit_places = [at for at, hit in enumerate(hits) if hit]
    wanted = [ahead[at] - ahead[before[at] + 1] for at in hit_places]
    return _run(hit_places, wanted, place)


def _heard(row, drawers, place, graces):
    """Tell a near row's asks, graces and hits, when all is looked at."""
    asks = near(row)
    check_drawers(drawers)
    check_place(place, len(asks))
    known = checked_graces(graces)
    return asks, known, heard(asks, drawers, known, [])


def _run(places, wanted, place):
    """Tell the run of places up to this one that holds as many ahead as each in it wants."""
    last = places.index(place)
    first = last
    at = last
    while at >= first:
        first = min(first, at - wanted[at])
        at -= 1
    return places[first:last + 1]
