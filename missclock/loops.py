"""Loops: near rows that are said over and over, and what may be missed in each round for ever.

A window is told as a tuple (first, behind): the asks from first on up to behind or,
where first is the greater one, those from first on and, a round later, those up to
behind. So of a thing that is asked once it is the whole round but this ask.
"""

from missclock.clerks import check_drawers, checked_standing, hear, missed_places, table_of
from missclock.depths import are_places, depth_behind
from missclock.errors import NoRow, NoSteady, TooMany
from missclock.kinds import are_wholes
from missclock.rows import near

MOST_LISTED = 12
MOST_DEPTHS = 8


def is_steady(row, drawers, thing):
    """Tell of anything whether it is a steady list for so many drawers."""
    asks = _loop(row)
    check_drawers(drawers)
    return _steady(asks, drawers, thing)


def steady_standing(row, drawers, places):
    """Tell the standing with which a clerk who misses just a steady list begins each round."""
    asks = _loop(row)
    check_drawers(drawers)
    if not _steady(asks, drawers, places):
        raise NoSteady("this is no steady list")
    ahead = _counted(asks, places)
    last = {thing: at for at, thing in enumerate(asks)}
    aged = [(thing, ahead[-1] - ahead[last[thing] + 1]) for thing in {thing: True for thing in asks[::-1]}]
    return [(thing, age) for thing, age in aged if age < drawers]


def greatest_steady(row, drawers):
    """Tell the greatest steady list: what a clerk who begins with nothing misses at last."""
    asks = _loop(row)
    check_drawers(drawers)
    _, places = _at_last(asks, drawers, [])
    return places


def all_steady(row, drawers):
    """Tell all steady lists, the shorter ahead."""
    asks = _loop(row)
    check_drawers(drawers)
    _check_short(asks, MOST_LISTED)
    return _all_steady(asks, drawers)


def steady_from(row, drawers, *, standing=None):
    """Tell behind how many rounds a clerk misses the same places in each, and these."""
    asks = _loop(row)
    check_drawers(drawers)
    return _at_last(asks, drawers, checked_standing(standing, drawers, {}))


def are_steady(row, thing):
    """Tell of anything whether it is a list of steady depths."""
    asks = _loop(row)
    if not isinstance(thing, list) or len(thing) != len(asks) or not are_wholes(thing):
        return False
    for depth, (first, behind) in zip(thing, _windows(asks)):
        window = thing[first:behind] if first <= behind else thing[first:] + thing[:behind]
        if depth != depth_behind(sorted(window), 0):
            return False
    return True


def all_depths(row):
    """Tell all lists of steady depths, rising.

    Those at least so deep are a steady list for as many drawers. So each comes of steady
    lists for one drawer, for two, and so on, of which each lies within the one ahead.
    """
    asks = _loop(row)
    _check_short(asks, MOST_DEPTHS)
    told = []
    deeper = [[0] * len(asks)]
    drawers = 1
    while deeper:
        steady = _all_steady(asks, drawers)
        both = [(one, within) for one in deeper for within in steady]
        deeper = []
        for depths, places in both:
            if not places:
                told.append(depths)
            elif min([depths[place] for place in places]) == drawers - 1:
                deeper.append([depth + 1 if at in places else depth for at, depth in enumerate(depths)])
        drawers += 1
    return sorted(told)


def _loop(row):
    """Tell the asks of a loop; refuse what is none."""
    asks = near(row)
    if not asks:
        raise NoRow("this is no loop")
    return asks


def _check_short(asks, most):
    """Refuse a loop of more asks than so many."""
    if len(asks) > most:
        raise TooMany(len(asks))


def _windows(asks):
    """Tell the window of each place."""
    last = {thing: at for at, thing in enumerate(asks)}
    told = []
    for place, thing in enumerate(asks):
        told.append((last[thing] + 1, place))
        last[thing] = place
    return told


def _counted(asks, places):
    """Tell of each place of the loop, and behind all, how many of these are ahead of it."""
    listed = {place: True for place in places}
    told = [0]
    for at in range(len(asks)):
        told.append(told[-1] + (1 if at in listed else 0))
    return told


def _steady(asks, drawers, thing):
    """Tell of anything whether it is a steady list."""
    if not are_places(thing, len(asks)):
        return False
    ahead = _counted(asks, thing)
    for place, (first, behind) in enumerate(_windows(asks)):
        many = ahead[behind] - ahead[first]
        if first > behind:
            many += ahead[-1]
        listed = ahead[place + 1] > ahead[place]
        if listed != (many >= drawers):
            return False
    return True


def _all_steady(asks, drawers):
    """Tell all steady lists, the shorter ahead.

    They are put together place by place. Where a window lies in one round, it tells whether
    its place is listed; else, of what is ahead in it, often that it is, or is not.
    """
    _, greatest = _at_last(asks, drawers, [])
    lists = [[]]
    for place, (first, behind) in enumerate(_windows(asks)):
        parted = first > behind
        to_come = len([at for at in greatest if parted and at >= first])
        longer = []
        for places in lists:
            many = len([at for at in places if parted or at >= first])
            if place in greatest and many + to_come >= drawers:
                longer.append(places + [place])
            if many < drawers:
                longer.append(places)
        lists = longer
    return sorted([places for places in lists if _steady(asks, drawers, places)], key=len)


def _at_last(asks, drawers, standing):
    """Tell behind how many rounds the same places are missed in each, and these.

    Two rounds alike are enough: what the second found was left by the first.
    """
    table = table_of(standing)
    now = 0
    rounds = 0
    last = None
    while True:
        hits = hear(asks, table, now, drawers, {})
        if hits == last:
            return rounds - 1, missed_places(hits)
        now += hits.count(False)
        rounds += 1
        last = hits
