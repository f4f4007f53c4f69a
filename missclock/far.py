"""Far rows: what a clerk does who hears a row, however many asks it has.

depth_at, missed_far, stands and depth_at_last tell of clerks without graces who begin
with nothing: such a clerk, with as many drawers as there are things, puts none away.
"""

from missclock.clerks import check_drawers, checked_graces, checked_standing, standing_of, table_of
from missclock.errors import NoPlace, NoRow
from missclock.kinds import is_whole
from missclock.rounds import Round, begin, hear_standing, hear_to, hear_whole, is_there, place_of_miss
from missclock.rows import asked_before, check_place, check_row, count_asks, last_of, thing_at


def behind_far(row, drawers, *, graces=None, standing=None):
    """Tell the standing behind all asks, and how many of them miss."""
    check_row(row)
    check_drawers(drawers)
    told, known, start = _begun(row, drawers, graces, standing)
    table = table_of(start)
    _, now = hear_whole(told, table, 0)
    latest = last_of(row) + [thing for thing, _ in start]
    return standing_of(latest, table, now, drawers, known), now


def misses_ahead(row, drawers, place, *, graces=None, standing=None):
    """Tell how many asks ahead of a place miss."""
    check_row(row)
    check_drawers(drawers)
    check_place(place, count_asks(row) + 1)
    told, _, start = _begun(row, drawers, graces, standing)
    return hear_to(told, table_of(start), 0, place)


def hits_at(row, drawers, place, *, graces=None, standing=None):
    """Tell whether the ask at a place is a hit."""
    check_row(row)
    check_drawers(drawers)
    check_place(place, count_asks(row))
    told, _, start = _begun(row, drawers, graces, standing)
    return _hits(told, table_of(start), 0, place, thing_at(row, place))


def nth_miss(row, drawers, number, *, graces=None, standing=None):
    """Tell the place of the so-manieth miss, from 0 on, or None."""
    check_row(row)
    check_drawers(drawers)
    if not is_whole(number) or number < 0:
        raise NoPlace(number)
    told, _, start = _begun(row, drawers, graces, standing)
    _, many = hear_whole(told, table_of(start), 0)
    return place_of_miss(told, table_of(start), 0, number) if number < many else None


def depth_at(row, place):
    """Tell the depth of the ask at a place, None of a first ask."""
    if asked_before(row, place) is None:
        return None
    return _depth(row, place, False)


def missed_far(row):
    """Tell how many asks miss, for all numbers of drawers, by steps."""
    check_row(row)
    told = Round(row)
    most = len(told.things)
    missed = {1: _missed(told, 1)}
    if most > 1:
        missed[most] = most
    waiting = [(1, most)]
    while waiting:
        low, high = waiting.pop()
        # With more drawers no more is missed: between two alike nothing is otherwise.
        if high - low > 1 and missed[low] != missed[high]:
            middle = (low + high) // 2
            missed[middle] = _missed(told, middle)
            waiting.extend([(low, middle), (middle, high)])
    steps = []
    for drawers in sorted(missed):
        if not steps or missed[drawers] < steps[-1][1]:
            steps.append((drawers, missed[drawers]))
    return steps


def stands(row, drawers):
    """Tell behind how many rounds the round stands, and how often each then misses."""
    _check_round(row)
    check_drawers(drawers)
    told = Round(row)
    begin(told, drawers, {})
    rounds, missed, _ = hear_standing(told, {}, 0)
    return rounds, missed


def depth_at_last(row, place):
    """Tell the greatest number of drawers with which, when its rounds stand, the place misses."""
    _check_round(row)
    check_place(place, count_asks(row))
    return _depth(row, place, True)


def _begun(row, drawers, graces, standing):
    """Tell a right row to be heard, graces and a standing, when these are looked at."""
    known = checked_graces(graces)
    start = checked_standing(standing, drawers, known)
    told = Round(row)
    begin(told, drawers, known)
    return told, known, start


def _check_round(row):
    """Refuse what is no row, or has no asks."""
    check_row(row)
    if len(row) == 0:
        raise NoRow("this is no round")


def _hits(told, table, now, place, thing):
    """Tell whether the ask at a place, of this thing, is hit."""
    now = hear_to(told, table, now, place)
    return is_there(told, thing, table, now)


def _missed(told, drawers):
    """Tell how many asks a clerk with so many drawers misses, from nothing."""
    begin(told, drawers, {})
    _, now = hear_whole(told, {}, 0)
    return now


def _depth(row, place, at_last):
    """Tell the greatest number of drawers with which the ask at a place misses: of no first ask,
    or of any ask when the rounds stand.
    """
    told = Round(row)
    thing = thing_at(row, place)
    depth, hitting = 0, len(told.things)
    while hitting - depth > 1:
        middle = (depth + hitting) // 2
        begin(told, middle, {})
        table = {}
        now = 0
        if at_last:
            _, _, now = hear_standing(told, table, now)
        if _hits(told, table, now, place, thing):
            hitting = middle
        else:
            depth = middle
    return depth
