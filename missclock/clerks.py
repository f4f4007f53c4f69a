"""One clerk: what it hits, misses and puts away, from any standing.

The told functions refuse what is wrong; the others, that take graces or a
standing, take right ones, with {} for no graces and [] for the empty standing.
"""

from missclock.errors import NoDrawers, NoGraces, NoStanding
from missclock.kinds import are_wholes, is_whole
from missclock.rows import LONGEST_THING, are_small, count_asks, laid_out
from missclock.rows import check_near, check_place, check_row, check_thing

MOST_DRAWERS = 10 ** 30


def is_standing(drawers, thing, *, graces=None):
    """Tell of anything whether it is a standing of so many drawers."""
    check_drawers(drawers)
    known, lowest = _with_lowest(graces)
    return _ages_of(thing, drawers, known, drawers + lowest) is not None


def walk(row, drawers, *, graces=None, standing=None):
    """Tell ask by ask whether it is a hit."""
    asks, known, start = _looked(row, drawers, graces, standing)
    return heard(asks, drawers, known, start)


def misses(row, drawers, *, graces=None, standing=None):
    """Tell how many asks are missed."""
    asks, known, start = _looked(row, drawers, graces, standing)
    return heard(asks, drawers, known, start).count(False)


def behind(row, drawers, *, graces=None, standing=None):
    """Tell the standing behind the row."""
    asks, known, start = _looked(row, drawers, graces, standing)
    return left_behind(asks, drawers, known, start)


def losses(row, drawers, *, graces=None, standing=None):
    """Tell for each miss that puts something away its place and the things."""
    asks, known, start = _looked(row, drawers, graces, standing)
    return lost(asks, drawers, known, start)


def asked(drawers, standing, thing, *, graces=None):
    """Tell of one ask: whether it hits, the standing behind it, what it puts away."""
    check_drawers(drawers)
    known, lowest = _with_lowest(graces)
    least = drawers + lowest
    ages = {} if standing is None else _ages_of(standing, drawers, known, least)
    if ages is None:
        raise NoStanding("this is no standing")
    check_thing(thing)
    if thing in ages:
        others = [(other, age) for other, age in ages.items() if other != thing]
        return True, [(thing, 0)] + others, []
    older = [(other, age + 1) for other, age in ages.items()]
    at = len(older)
    while at > 0 and older[at - 1][1] >= least:
        at -= 1
    kept = [pair for pair in older[at:] if pair[1] < limit_of(pair[0], drawers, known)]
    gone = [other for other, age in older[at:] if age >= limit_of(other, drawers, known)]
    front = [(thing, 0)] if limit_of(thing, drawers, known) >= 1 else []
    return False, front + older[:at] + kept, gone


def lying(drawers, standing, *, graces=None):
    """Tell what lies where: for each age that something has, rising, the things."""
    check_drawers(drawers)
    known = checked_graces(graces)
    aged = {}
    for thing, age in checked_standing(standing, drawers, known):
        aged.setdefault(age, []).append(thing)
    return [(age, aged[age]) for age in aged]


def reason(row, drawers, place, *, graces=None, standing=None):
    """Tell why the ask at a place is what it is."""
    check_row(row)
    check_drawers(drawers)
    check_place(place, count_asks(row))
    known = checked_graces(graces)
    start = checked_standing(standing, drawers, known)
    check_near(row)
    # What is asked later changes nothing of it.
    asks = laid_out(row)[:place + 1]
    limit = limit_of(asks[place], drawers, known)
    if limit < 1:
        return ("never",)
    since, age = _last_known(asks, start)
    if age is None:
        return ("new",)
    hits = heard(asks, drawers, known, start)
    missed = [at for at in range(since, place) if not hits[at]]
    if hits[place]:
        return ("hit", missed)
    return ("miss", missed[:limit - age])


def are_misses(row, drawers, thing, *, graces=None, standing=None):
    """Tell of anything whether it is the list of the places of the misses."""
    asks, known, start = _looked(row, drawers, graces, standing)
    missed = missed_places(heard(asks, drawers, known, start))
    if not isinstance(thing, list) or len(thing) != len(missed):
        return False
    return are_wholes(thing) and thing == missed


def check_drawers(drawers):
    """Refuse what is no number of drawers."""
    if not is_whole(drawers) or not 1 <= drawers <= MOST_DRAWERS:
        raise NoDrawers("this is no number of drawers")


def checked_graces(graces):
    """Tell graces as they are, {} for None; refuse what is none."""
    known, _ = _with_lowest(graces)
    return known


def _with_lowest(graces):
    """Tell graces as they are, {} for None, and the lowest one, 0 at most; refuse what is none."""
    if graces is None:
        return {}, 0
    lowest = _lowest_of(graces)
    if lowest is None:
        raise NoGraces("these are no graces")
    return graces, lowest


def _lowest_of(graces):
    """Tell the lowest grace, 0 at most, of a dict from things to whole numbers; of anything else None."""
    if not isinstance(graces, dict):
        return None
    lowest = 0
    for thing, grace in graces.items():
        if not isinstance(thing, str) or len(thing) > LONGEST_THING:
            return None
        if not isinstance(grace, int) or grace is True or grace is False:
            return None
        if grace < lowest:
            lowest = grace
    return lowest if "" not in graces and are_small("".join(graces)) else None


def checked_standing(standing, drawers, graces):
    """Tell a standing as it is, [] for None; refuse what is none."""
    if standing is None:
        return []
    if not stands(standing, drawers, graces):
        raise NoStanding("this is no standing")
    return standing


def stands(thing, drawers, graces):
    """Tell of anything whether it is a standing."""
    least = drawers + min(0, min(graces.values(), default=0))
    return _ages_of(thing, drawers, graces, least) is not None


def is_aged(thing):
    """Tell of anything whether it has the form of a standing, whatever the limits are."""
    return _ages_of(thing, None, {}, None) is not None


def _ages_of(thing, drawers, graces, least):
    """Tell a standing as a dict, in its order, from things to ages; of anything else None.

    No limit is below least; where this is None, there are no limits. Ahead of each ask
    this is done anew: so all is looked at in one go, and what can be looked at all at
    once, the letters and the order of the ages, behind it.
    """
    if not isinstance(thing, list):
        return None
    told = {}
    for pair in thing:
        if not isinstance(pair, tuple) or len(pair) != 2:
            return None
        name, age = pair
        if not isinstance(name, str) or len(name) > LONGEST_THING:
            return None
        if not isinstance(age, int) or age is True or age is False:
            return None
        if least is not None and age >= least and age >= drawers + graces.get(name, 0):
            return None
        told[name] = age
    ages = list(told.values())
    if len(ages) < len(thing) or "" in told or not are_small("".join(told)):
        return None
    if ages != sorted(ages) or ages and ages[0] < 0:
        return None
    return told


def limit_of(thing, drawers, graces):
    """Tell the age at which the thing is put away."""
    return drawers + graces.get(thing, 0)


def hear(asks, table, now, drawers, graces):
    """Hear asks, one by one, and tell of each whether it is a hit.

    The table has of each thing how many misses there were by its last ask, now is
    how many there were so far: the difference is the thing's age, and it is there
    while this is below its limit. The table is brought up to date.
    """
    hits = []
    for thing in asks:
        hit = thing in table and now - table[thing] < drawers + graces.get(thing, 0)
        if not hit:
            now += 1
        table[thing] = now
        hits.append(hit)
    return hits


def heard(asks, drawers, graces, standing):
    """Tell ask by ask, from a standing, whether it is a hit."""
    return hear(asks, table_of(standing), 0, drawers, graces)


def table_of(standing):
    """Tell a standing as hear's table, of no misses so far."""
    return {thing: -age for thing, age in standing}


def left_behind(asks, drawers, graces, standing):
    """Tell the standing that asks leave behind."""
    table = table_of(standing)
    now = hear(asks, table, 0, drawers, graces).count(False)
    latest = asks[::-1] + [thing for thing, _ in standing]
    return standing_of(latest, table, now, drawers, graces)


def standing_of(latest, table, now, drawers, graces):
    """Tell what hear's table holds as a standing: latest has all things, the one asked last first."""
    aged = [(thing, now - table[thing]) for thing in {thing: True for thing in latest}]
    return [(thing, age) for thing, age in aged if age < limit_of(thing, drawers, graces)]


def lost(asks, drawers, graces, standing):
    """Tell for each miss that puts something away its place and the things, as they stood."""
    missed = missed_places(heard(asks, drawers, graces, standing))
    gone = []
    for thing, since, place in _stretches(asks, missed, standing):
        limit = limit_of(thing, drawers, graces)
        if limit >= 1 and since + limit <= len(missed):
            gone.append((missed[since + limit - 1], -place, thing))
    told = {}
    for at, _, thing in sorted(gone):
        told.setdefault(at, []).append(thing)
    return [(at, told[at]) for at in told]


def _stretches(asks, missed, standing):
    """Tell where nothing more was asked of a thing until it was missed, or till the end.

    Of each: the thing, how many misses there were by its last ask ahead, and this
    ask's place; places below 0 are those of what stood there at first.
    """
    last = {thing: (-age, -at) for at, (thing, age) in enumerate(standing, start=1)}
    now = 0
    told = []
    for place, thing in enumerate(asks):
        if now < len(missed) and missed[now] == place:
            now += 1
            if thing in last:
                told.append((thing, last[thing][0], last[thing][1]))
        last[thing] = (now, place)
    return told + [(thing, last[thing][0], last[thing][1]) for thing in last]


def missed_places(hits):
    """Tell the places of the misses, rising."""
    return [place for place, hit in enumerate(hits) if not hit]


def misses_since(asks, hits):
    """Tell of each ask the misses between its thing's last ask and it, None of a first one."""
    told = []
    last = {}
    now = 0
    for thing, hit in zip(asks, hits):
        told.append(now - last[thing] if thing in last else None)
        if not hit:
            now += 1
        last[thing] = now
    return told


def _looked(row, drawers, graces, standing):
    """Tell a near row's asks, graces and a standing, all of them looked at."""
    check_row(row)
    check_drawers(drawers)
    known = checked_graces(graces)
    start = checked_standing(standing, drawers, known)
    check_near(row)
    return laid_out(row), known, start


def _last_known(asks, standing):
    """Tell from where on the last ask's thing's misses count, and its age there, None of a new one."""
    place = len(asks) - 1
    thing = asks[place]
    for at in range(place - 1, -1, -1):
        if asks[at] == thing:
            return at + 1, 0
    for name, age in standing:
        if name == thing:
            return 0, age
    return 0, None
