"""Depths: what clerks with unlike many drawers miss, told for all at once."""

from missclock.clerks import check_drawers, checked_graces
from missclock.errors import NoNumber, NoWish
from missclock.kinds import is_whole
from missclock.rows import near


def depths(row, *, graces=None):
    """Tell the depth of each ask, None of an endless one."""
    asks = near(row)
    return reckoned(asks, checked_graces(graces))


def missed_by(row, *, graces=None):
    """Tell how many asks are missed, for all numbers of drawers, by steps."""
    asks = near(row)
    return steps_of(reckoned(asks, checked_graces(graces)))


def drawers_for(row, most, *, graces=None):
    """Tell the fewest drawers with which at most so many asks are missed, or None."""
    asks = near(row)
    if not is_whole(most) or most < 0:
        raise NoNumber("this is no number from 0 on")
    for drawers, many in steps_of(reckoned(asks, checked_graces(graces))):
        if many <= most:
            return drawers
    return None


def drawers_to_hit(row, places, *, graces=None):
    """Tell the fewest drawers with which each of these asks is hit, or None."""
    asks = near(row)
    if not are_places(places, len(asks)):
        raise NoWish("these are no places of asks")
    told = reckoned(asks, checked_graces(graces))
    wished = [told[place] for place in places]
    if None in wished:
        return None
    return max(wished, default=0) + 1


def thinned(row, *, graces=None):
    """Tell the row's things without the asks that change no other depth."""
    asks = near(row)
    known = checked_graces(graces)
    told = reckoned(asks, known)
    return [thing for thing, depth in zip(asks, told) if depth != 0 or known.get(thing, 0) != 0]


def nearest_again(row, drawers, *, graces=None):
    """Tell the two misses of one thing with the fewest misses between, or None."""
    asks = near(row)
    check_drawers(drawers)
    told = reckoned(asks, checked_graces(graces))
    missed = [place for place, depth in enumerate(told) if is_missed(depth, drawers)]
    pairs = _missed_again(asks, missed)
    if not pairs:
        return None
    _, place, other = min(pairs)
    return place, other


def reckoned(asks, graces):
    """Tell the depths of asks that are laid out."""
    # An endless depth stands here as a number that no other depth reaches: where d + grace
    # asks at least are wanted of fewer than all, d is less than all and what is below 0.
    endless = len(asks) - min(0, min(graces.values(), default=0))
    told = []
    last = {}
    for place, thing in enumerate(asks):
        if thing in last:
            since = sorted(told[last[thing] + 1:])
            told.append(depth_behind(since, graces.get(thing, 0)))
        else:
            told.append(endless)
        last[thing] = place
    return [None if depth == endless else depth for depth in told]


def depth_behind(since, grace):
    """Tell the depth of an ask by the depths, rising, of the asks since its thing's last one.

    Depth d is reached where the k-th deepest of these asks, with k as d + grace, is
    d deep at least. Each k that does so lies ahead of each that doesn't, as depths
    fall from the deepest one on and d rises: so the last one is found by halving.
    """
    many = len(since)
    few = 0
    while few < many:
        middle = (few + many) // 2
        if since[-1 - middle] > middle - grace:
            few = middle + 1
        else:
            many = middle
    return max(0, few - grace)


def is_missed(depth, drawers):
    """Tell whether a clerk with so many drawers misses an ask of this depth."""
    return depth is None or depth >= drawers


def are_depths(thing):
    """Tell of anything whether it is a list of numbers from 0 on, and None for endless ones."""
    if not isinstance(thing, list):
        return False
    return all([depth is None or is_whole(depth) and depth >= 0 for depth in thing])


def are_places(places, many):
    """Tell whether anything is a rising list of some of so many places."""
    if not isinstance(places, list):
        return False
    least = 0
    for place in places:
        if not is_whole(place) or not least <= place < many:
            return False
        least = place + 1
    return True


def steps_of(told):
    """Tell how many asks of these depths are missed, by steps, from one drawer on."""
    deep = sorted([depth for depth in told if depth is not None and depth > 0])
    many = told.count(None) + len(deep)
    steps = [(1, many)]
    for at, depth in enumerate(deep, start=1):
        if at == len(deep) or deep[at] > depth:
            steps.append((depth + 1, many - at))
    return steps


def _missed_again(asks, missed):
    """Tell, of misses of one thing next to one another, how many lie between, and both."""
    pairs = []
    last = {}
    for at, place in enumerate(missed):
        thing = asks[place]
        if thing in last:
            pairs.append((at - last[thing] - 1, missed[last[thing]], place))
        last[thing] = at
    return pairs
