"""Reminders: how often wished things must be asked for once more, so as to be hit.

They are reckoned by the kept walk, in which a wished thing, once asked for, is
never put away: whoever is reminded moves nobody.
"""

from missclock.clerks import check_drawers, checked_graces, limit_of, missed_places
from missclock.errors import NoNumber
from missclock.graces import check_wish, kept_hits
from missclock.kinds import is_whole
from missclock.rows import asked_last, check_near, check_row, laid_out, often


def kept_walk(row, drawers, wished, *, graces=None):
    """Tell ask by ask whether it is a hit in the kept walk."""
    asks, known = looked_wished(row, drawers, wished, graces)
    return kept_hits(asks, drawers, known, wished)


def gaps(row, drawers, wished, *, graces=None):
    """Tell of each wished thing how many misses lie ahead of each ask but its first."""
    asks, known = looked_wished(row, drawers, wished, graces)
    return _lengths(windows_of(asks, drawers, wished, known))


def needs(row, drawers, wished, *, graces=None):
    """Tell how many reminders each wished thing needs, None whom no plan helps."""
    asks, known = looked_wished(row, drawers, wished, graces)
    return _needs(asks, drawers, wished, known)


def fewest(row, drawers, wished, *, graces=None):
    """Tell the fewest reminders of all plans that hold, or None."""
    asks, known = looked_wished(row, drawers, wished, graces)
    return _fewest(asks, drawers, wished, known)


def lazy(row, drawers, wished, *, graces=None):
    """Tell the plan whose reminders stand just ahead of the misses that would put away, or None."""
    told = _stretches(row, drawers, wished, graces)
    if told is None:
        return None
    return sorted([(places[-1], thing) for thing, places in told])


def wanted(row, drawers, wished, *, graces=None):
    """Tell a paper that no fewer reminders do, or None."""
    return _stretches(row, drawers, wished, graces)


def drawers_for_few(row, wished, most, *, graces=None):
    """Tell the fewest drawers by which no more reminders than so many are needed.

    What a clerk does hangs on limits only from 1 to one more than all asks. So
    drawers are tried where some thing's limit lies there, nowhere between.
    """
    check_row(row)
    check_wish(wished, often(row))
    if not is_whole(most) or most < 0:
        raise NoNumber("this is no number from 0 on")
    known = checked_graces(graces)
    check_near(row)
    asks = laid_out(row)
    first = sorted(set([1] + [max(1, 1 - known.get(thing, 0)) for thing in asks]))
    last = [drawers + len(asks) for drawers in first]
    at = _first_enough(last, asks, wished, known, most)
    low = first[at] if at == 0 else max(first[at], last[at - 1] + 1)
    tried = list(range(low, last[at] + 1))
    return tried[_first_enough(tried, asks, wished, known, most)]


def looked_wished(row, drawers, wished, graces):
    """Tell a near row's asks and graces, when all is looked at."""
    check_row(row)
    check_drawers(drawers)
    check_wish(wished, often(row))
    known = checked_graces(graces)
    check_near(row)
    return laid_out(row), known


def windows_of(asks, drawers, wished, graces):
    """Tell of each wished thing, for each ask but its first, the misses of the kept walk
    between it and the one ahead.
    """
    hits = kept_hits(asks, drawers, graces, wished)
    missed = missed_places(hits)
    told = {thing: [] for thing in wished}
    ahead = [0]
    for hit in hits:
        ahead.append(ahead[-1] + (0 if hit else 1))
    for at, before in enumerate(asked_last(asks)):
        if before is not None and asks[at] in told:
            told[asks[at]].append(missed[ahead[before + 1]:ahead[at]])
    return told


def _lengths(windows):
    """Tell how many misses each of the windows has."""
    return {thing: [len(window) for window in windows[thing]] for thing in windows}


def _needs(asks, drawers, wished, graces):
    """Tell how many reminders each wished thing needs, None whom no plan helps."""
    lengths = _lengths(windows_of(asks, drawers, wished, graces))
    return {thing: _need(lengths[thing], limit_of(thing, drawers, graces)) for thing in lengths}


def _need(lengths, limit):
    """Tell how many reminders gaps of these lengths need, or None."""
    if max(lengths, default=0) == 0:
        return None if lengths and limit < 1 else 0
    if limit < 2:
        return None
    return sum([(many - 1) // (limit - 1) for many in lengths if many > 0])


def _fewest(asks, drawers, wished, graces):
    """Tell how many reminders all wished things need, or None."""
    told = list(_needs(asks, drawers, wished, graces).values())
    return None if None in told else sum(told)


def _stretches(row, drawers, wished, graces):
    """Tell each stretch of misses that wants a reminder of its own, or None.

    A thing bears one miss less than its limit: each stretch ends at the miss by
    which it would be put away, at which, just reminded, it begins to bear anew.
    """
    asks, known = looked_wished(row, drawers, wished, graces)
    if _fewest(asks, drawers, wished, known) is None:
        return None
    windows = windows_of(asks, drawers, wished, known)
    told = []
    for thing in windows:
        bears = max(1, limit_of(thing, drawers, known) - 1)
        for window in windows[thing]:
            for end in range(bears, len(window), bears):
                told.append((thing, window[end - bears:end + 1]))
    return told


def _first_enough(tried, asks, wished, graces, most):
    """Tell where among rising numbers of drawers the first stands that is enough.

    The last one is: with more drawers no wished thing needs more.
    """
    low, high = 0, len(tried) - 1
    while low < high:
        middle = (low + high) // 2
        many = _fewest(asks, tried[middle], wished, graces)
        if many is not None and many <= most:
            high = middle
        else:
            low = middle + 1
    return low
