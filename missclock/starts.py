"""Starts: standings from which a clerk goes on, which is younger, and where they meet.

A thing that doesn't stand in a start is older there than any age.
"""

from missclock.clerks import check_drawers, checked_graces, heard, left_behind, limit_of, stands
from missclock.errors import NoStanding, NoThing, TooMany
from missclock.rows import check_near, check_row, is_thing, laid_out

MOST_LED = 24


def is_younger(drawers, one, other, *, graces=None):
    """Tell whether no thing is older in the first start than in the second."""
    _check_starts(drawers, one, other, graces)
    return _younger(one, other)


def unlike_asks(row, drawers, one, other, *, graces=None):
    """Tell the places that one start hits and the other misses, each with which one hits."""
    asks, known = _looked(row, drawers, one, other, graces)
    both = list(zip(heard(asks, drawers, known, one), heard(asks, drawers, known, other)))
    return [(at, 0 if first else 1) for at, (first, second) in enumerate(both) if first != second]


def met(row, drawers, one, other, *, graces=None):
    """Tell behind how few asks both stand alike, or None."""
    asks, known = _looked(row, drawers, one, other, graces)
    return _met(asks, drawers, one, other, known)


def younger_of(drawers, one, other, *, graces=None):
    """Tell the start that has of each thing the lesser age."""
    _check_starts(drawers, one, other, graces)
    first = dict(one)
    second = dict(other)
    aged = [(thing, min(age, second.get(thing, age))) for thing, age in one]
    return _by_ages(aged + [(thing, age) for thing, age in other if thing not in first])


def elder_of(drawers, one, other, *, graces=None):
    """Tell the start that has of each thing the greater age."""
    _check_starts(drawers, one, other, graces)
    second = dict(other)
    return _by_ages([(thing, max(age, second[thing])) for thing, age in one if thing in second])


def how_many_between(drawers, one, other, *, graces=None):
    """Tell how many unlike starts are elder than the first and younger than the second."""
    known = _check_starts(drawers, one, other, graces)
    if not _younger(one, other):
        return 0
    older = dict(other)
    many = 1
    for thing, age in one:
        # Where the second hasn't the thing, to be gone is one way more.
        bound = older.get(thing, limit_of(thing, drawers, known))
        many = many * (bound - age + 1)
    return many


def row_to(drawers, start):
    """Tell a row of the start's things that leads to it from nothing, or what bars it."""
    check_drawers(drawers)
    _check_start(start, drawers, {})
    if len(start) > MOST_LED:
        raise TooMany(len(start))
    if drawers == 1 and len(start) > 1:
        return "old", 1
    for place, (_, age) in enumerate(start):
        if age > place:
            return "old", place
    return "row", _leading(start)


def comes_to(row, drawers, start):
    """Tell whether behind the row, from nothing, a start alike stands."""
    check_row(row)
    check_drawers(drawers)
    _check_start(start, drawers, {})
    check_near(row)
    return dict(left_behind(laid_out(row), drawers, {}, [])) == dict(start)


def all_met(row, drawers, things, *, graces=None):
    """Tell behind how few asks all starts of these things stand alike, or None."""
    check_row(row)
    check_drawers(drawers)
    _check_things(things)
    known = checked_graces(graces)
    check_near(row)
    youngest = [(thing, 0) for thing in things if limit_of(thing, drawers, known) >= 1]
    return _met(laid_out(row), drawers, youngest, [], known)


def more_missed(row, drawers, one, other, *, graces=None):
    """Tell by how many the misses from the second start are more than those from the first."""
    asks, known = _looked(row, drawers, one, other, graces)
    first = heard(asks, drawers, known, one).count(False)
    return heard(asks, drawers, known, other).count(False) - first


def _looked(row, drawers, one, other, graces):
    """Tell a near row's asks and graces, when all is looked at."""
    check_row(row)
    known = _check_starts(drawers, one, other, graces)
    check_near(row)
    return laid_out(row), known


def _check_starts(drawers, one, other, graces):
    """Refuse what is wrong of two starts, and tell the graces."""
    check_drawers(drawers)
    known = checked_graces(graces)
    _check_start(one, drawers, known)
    _check_start(other, drawers, known)
    return known


def _check_start(start, drawers, graces):
    """Refuse what is no start: None is none."""
    if not stands(start, drawers, graces):
        raise NoStanding("this is no start")


def _check_things(things):
    """Refuse what is no list of unlike things."""
    if not isinstance(things, list):
        raise NoThing(things)
    ahead = {}
    for thing in things:
        if not is_thing(thing) or thing in ahead:
            raise NoThing(thing)
        ahead[thing] = True


def _younger(one, other):
    """Tell whether no thing is older in the first start."""
    first = dict(one)
    return all([thing in first and first[thing] <= age for thing, age in other])


def _met(asks, drawers, one, other, graces):
    """Tell behind how few asks both stand alike, or None: once alike they stay so."""
    if not _alike_behind(asks, drawers, one, other, graces):
        return None
    few, enough = 0, len(asks)
    while few < enough:
        middle = (few + enough) // 2
        if _alike_behind(asks[:middle], drawers, one, other, graces):
            enough = middle
        else:
            few = middle + 1
    return few


def _alike_behind(asks, drawers, one, other, graces):
    """Tell whether behind asks each thing has one age from both starts."""
    first = left_behind(asks, drawers, graces, one)
    return dict(first) == dict(left_behind(asks, drawers, graces, other))


def _by_ages(aged):
    """Tell things and ages as a start: of one age as they are told here."""
    turns = sorted([(age, at, thing) for at, (thing, age) in enumerate(aged)])
    return [(thing, age) for age, _, thing in turns]


def _leading(start):
    """Tell asks that lead from nothing to a start of no age above its place.

    As many things at the front as the highest age are asked in the last stretch only,
    each missed once, the foremost last. All others are put in ahead of it, and held by
    being asked again behind each miss. Within the stretch each thing is asked for the
    last time when as many misses are to come as its age.
    """
    oldest = start[-1][1] if start else 0
    asks = []
    ahead = []
    for thing, _ in start[oldest:][::-1]:
        asks.extend([thing] + ahead)
        ahead.append(thing)
    asks.extend(_of_age(start, oldest))
    for age in range(oldest - 1, -1, -1):
        asks.append(start[age][0])
        asks.extend(_of_age(start, age))
    return asks


def _of_age(start, age):
    """Tell the things of this age, the foremost last."""
    return [thing for thing, other in start[::-1] if other == age]
