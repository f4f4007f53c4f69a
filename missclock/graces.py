"""Graces: which are kinder, what one of them changes, which keep what is wished.

A wish is kept where each ask of its things but the first is a hit.
"""

from missclock.clerks import check_drawers, checked_graces, heard, missed_places, misses_since
from missclock.depths import are_places, is_missed, reckoned
from missclock.errors import NoGraces, NoThing, NoWish
from missclock.kinds import is_whole
from missclock.rows import asked_last, is_thing, near


def is_kinder(graces, other):
    """Tell whether no thing has less by the second graces than by the first."""
    return _kinder(checked_graces(graces), checked_graces(other))


def helped(row, drawers, graces, other):
    """Tell the places that the first graces miss and the second, kinder ones hit."""
    asks = near(row)
    check_drawers(drawers)
    known = checked_graces(graces)
    kinder = checked_graces(other)
    if not _kinder(known, kinder):
        raise NoGraces("these graces are not kinder")
    hits = heard(asks, drawers, known, [])
    return [at for at, hit in enumerate(heard(asks, drawers, kinder, [])) if hit and not hits[at]]


def like_drawers(row, drawers, graces):
    """Tell the fewest drawers that without graces miss just the same places, or None."""
    asks = near(row)
    check_drawers(drawers)
    hits = heard(asks, drawers, checked_graces(graces), [])
    told = reckoned(asks, {})
    # What is hit from nothing was asked ahead: no such depth is endless.
    fewest = 1 + max([depth for depth, hit in zip(told, hits) if hit], default=0)
    if all([hit or is_missed(depth, fewest) for depth, hit in zip(told, hits)]):
        return fewest
    return None


def by_grace(row, drawers, thing, *, graces=None):
    """Tell how many places are missed by what the thing's grace is, by steps.

    Nothing becomes other until the grace is enough for one of the thing's missed
    asks: that with the fewest misses since its last ask.
    """
    asks = near(row)
    check_drawers(drawers)
    if not is_thing(thing) or thing not in asks:
        raise NoThing(thing)
    known = dict(checked_graces(graces))
    limit = 0
    told = []
    while limit is not None:
        known[thing] = limit - drawers
        hits = heard(asks, drawers, known, [])
        told.append((known[thing], hits.count(False)))
        since = misses_since(asks, hits)
        bars = [many for one, hit, many in zip(asks, hits, since) if one == thing and not hit and many is not None]
        limit = min(bars) + 1 if bars else None
    return told


def least_graces(row, drawers, wish, *, graces=None):
    """Tell the least graces of wished things, asked twice at least, that keep the wish."""
    asks, known = _wished(row, drawers, wish, graces)
    hits = kept_hits(asks, drawers, known, wish)
    return {thing: many - drawers + 1 for thing, _, many in _most_since(asks, hits, wish)}


def least_paper(row, drawers, wish, *, graces=None):
    """Tell a paper that no lesser graces keep the wish."""
    asks, known = _wished(row, drawers, wish, graces)
    hits = kept_hits(asks, drawers, known, wish)
    spots = []
    for thing, places, many in _most_since(asks, hits, wish):
        spots.append((thing, places[0], many))
    return missed_places(hits), spots


def is_least_paper(row, drawers, wish, thing, *, graces=None):
    """Tell of anything whether it is a paper that no lesser graces keep the wish."""
    asks, known = _wished(row, drawers, wish, graces)
    if not isinstance(thing, tuple) or len(thing) != 2:
        return False
    missed, spots = thing
    hits = kept_hits(asks, drawers, known, wish)
    if not are_places(missed, len(asks)) or missed != missed_places(hits):
        return False
    due = _most_since(asks, hits, wish)
    if not isinstance(spots, list) or len(spots) != len(due):
        return False
    return all([_is_spot(spot, one) for spot, one in zip(spots, due)])


def graces_of(row, drawers, places):
    """Tell between which graces, thing by thing, just these places are missed, or None."""
    asks, hits, since = _judged(row, drawers, places)
    if _hit_at_first(asks, hits) is not None:
        return None
    told = {}
    again = _asked_again(asks, asks)
    for thing in again:
        hit, missed = _ends(again[thing], hits, since)
        least = None if hit is None else since[hit] - drawers + 1
        most = None if missed is None else since[missed] - drawers
        if least is not None and most is not None and least > most:
            return None
        told[thing] = (least, most)
    return told


def graces_barred(row, drawers, places):
    """Tell a paper that by no graces just these places are missed, or None."""
    asks, hits, since = _judged(row, drawers, places)
    first = _hit_at_first(asks, hits)
    if first is not None:
        return asks[first], first
    again = _asked_again(asks, asks)
    for thing in again:
        hit, missed = _ends(again[thing], hits, since)
        if hit is not None and missed is not None and since[hit] >= since[missed]:
            return thing, hit, missed
    return None


def check_wish(wish, things):
    """Refuse what is no list of unlike ones of these things."""
    if not isinstance(wish, list):
        raise NoWish("this is no wish")
    if not all([isinstance(one, str) and one in things for one in wish]) or len(set(wish)) < len(wish):
        raise NoWish("this is no wish")


def kept_hits(asks, drawers, graces, wish):
    """Tell ask by ask whether it is a hit where wished things, once asked for, are never put away."""
    known = dict(graces)
    for thing in wish:
        # Nothing gets so old by so many asks.
        known[thing] = len(asks) + 1 - drawers
    return heard(asks, drawers, known, [])


def _kinder(graces, other):
    """Tell whether no thing has less by the second graces."""
    named = all([other.get(thing, 0) >= graces[thing] for thing in graces])
    return named and all([other[thing] >= graces.get(thing, 0) for thing in other])


def _wished(row, drawers, wish, graces):
    """Tell a near row's asks and graces, when all is looked at."""
    asks = near(row)
    check_drawers(drawers)
    check_wish(wish, asks)
    return asks, checked_graces(graces)


def _asked_again(asks, things):
    """Tell of those of these things that are asked twice at least, by names, all asks but the first."""
    again = {thing: [] for thing in things}
    for at, before in enumerate(asked_last(asks)):
        if before is not None and asks[at] in again:
            again[asks[at]].append(at)
    return {thing: again[thing] for thing in sorted(again) if again[thing]}


def _most_since(asks, hits, wish):
    """Tell of wished things asked twice at least, by names, the most misses since, and at which places."""
    since = misses_since(asks, hits)
    again = _asked_again(asks, wish)
    told = []
    for thing in again:
        many = max([since[at] for at in again[thing]])
        told.append((thing, [at for at in again[thing] if since[at] == many], many))
    return told


def _is_spot(spot, due):
    """Tell whether anything is the tuple of this thing, one of these places, and so many."""
    if not isinstance(spot, tuple) or len(spot) != 3:
        return False
    name, place, many = spot
    if not isinstance(name, str) or not is_whole(place) or not is_whole(many):
        return False
    return name == due[0] and place in due[1] and many == due[2]


def _judged(row, drawers, places):
    """Tell a near row's asks, its hits where these places are missed, and the misses since."""
    asks = near(row)
    check_drawers(drawers)
    if not are_places(places, len(asks)):
        raise NoWish("these are no places of asks")
    missed = {at: True for at in places}
    hits = [at not in missed for at in range(len(asks))]
    return asks, hits, misses_since(asks, hits)


def _hit_at_first(asks, hits):
    """Tell the place of the first hit that is a first ask, or None."""
    for at, before in enumerate(asked_last(asks)):
        if before is None and hits[at]:
            return at
    return None


def _ends(places, hits, since):
    """Tell of these places the hit with the most misses since and the miss with the fewest, or None."""
    hit = [(-since[at], at) for at in places if hits[at]]
    missed = [(since[at], at) for at in places if not hits[at]]
    return min(hit, default=(0, None))[1], min(missed, default=(0, None))[1]
