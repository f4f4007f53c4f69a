"""One clerk: what it hits, misses and puts away, from any standing.

The told functions refuse what is wrong; the others, that take graces or a
standing, take right ones, with {} for no graces and [] for the empty standing.
"""

from missclock.errors import NoDrawers, NoGraces, NoStanding
from missclock.kinds import is_whole
from missclock.rows import check_near, check_place, check_row, check_thing, count_asks, is_thing, laid_out

MOST_DRAWERS = 10 ** 30


def is_standing(drawers, thing, *, graces=None):
    """Tell of anything whether it is a standing of so many drawers."""
    check_drawers(drawers)
    return stands(thing, drawers, checked_graces(graces))


def walk(row, drawers, *, graces=None, standing=None):
    """Tell ask by ask whether it is a hit."""
    asks, known, start = _looked(row, drawers, graces, standing)
    return heard(asks, drawers, known, start)


def misses(row, drawers, *, graces=None, standing=None):
    """Tell how many asks are missed."""
    asks, known, start = _looked(row, drawers, graces, standing)
    return heard(asks, drawers, known, start).count(False)


def behind(row, drawers, *, graces=None, standing=None):
    """Tell the standing behind the row."""
    asks, known, start = _looked(row, drawers, graces, standing)
    return left_behind(asks, drawers, known, start)


def losses(row, drawers, *, graces=None, standing=None):
    """Tell for each miss that puts something away its place and the things."""
    asks, known, start = _looked(row, drawers, graces, standing)
    return lost(asks, drawers, known, start)


def asked(drawers, standing, thing, *, graces=None):
    """Tell of one ask: whether it hits, the standing behind it, what it puts away."""
    check_drawers(drawers)
    known = checked_graces(graces)
    start = checked_standing(standing, drawers, known)
    check_thing(thing)
    return step(start, drawers, known, thing)


def lying(drawers, standing, *, graces=None):
    """Tell what lies where: for each age that something has, rising, the things."""
    check_drawers(drawers)
    known = checked_graces(graces)
    aged = {}
    for thing, age in checked_standing(standing, drawers, known):
        aged.setdefault(age, []).append(thing)
    return [(age, aged[age]) for age in aged]


def reason(row, drawers, place, *, graces=None, standing=None):
    """Tell why the ask at a place is what it is."""
    check_row(row)
    check_drawers(drawers)
    check_place(place, count_asks(row))
    asks, known, start = _looked(row, drawers, graces, standing)
    limit = limit_of(asks[place], drawers, known)
    if limit < 1:
        return ("never",)
    since, age = _last_known(asks, place, start)
    if age is None:
        return ("new",)
    hits = heard(asks, drawers, known, start)
    missed = [at for at in range(since, place) if not hits[at]]
    if hits[place]:
        return ("hit", missed)
    return ("miss", missed[:limit - age])


def are_misses(row, drawers, thing, *, graces=None, standing=None):
    """Tell of anything whether it is the list of the places of the misses."""
    asks, known, start = _looked(row, drawers, graces, standing)
    missed = missed_places(heard(asks, drawers, known, start))
    if not isinstance(thing, list) or len(thing) != len(missed):
        return False
    return all([is_whole(one) and one == place for one, place in zip(thing, missed)])


def check_drawers(drawers):
    """Refuse what is no number of drawers."""
    if not is_whole(drawers) or not 1 <= drawers <= MOST_DRAWERS:
        raise NoDrawers("this is no number of drawers")


def checked_graces(graces):
    """Tell graces as a dict, {} for None; refuse what is none."""
    if graces is None:
        return {}
    if not is_graces(graces):
        raise NoGraces("these are no graces")
    return {thing: graces[thing] for thing in graces}


def is_graces(graces):
    """Tell whether anything is a dict from things to whole numbers."""
    if not isinstance(graces, dict):
        return False
    return all([is_thing(thing) and is_whole(grace) for thing, grace in graces.items()])


def checked_standing(standing, drawers, graces):
    """Tell a standing as a list, [] for None; refuse what is none."""
    if standing is None:
        return []
    if not stands(standing, drawers, graces):
        raise NoStanding("this is no standing")
    return list(standing)


def stands(thing, drawers, graces):
    """Tell of anything whether it is a standing."""
    if not isinstance(thing, list):
        return False
    named = {}
    least = 0
    for pair in thing:
        if not _is_aged(pair):
            return False
        name, age = pair
        if name in named or not least <= age < limit_of(name, drawers, graces):
            return False
        named[name] = True
        least = age
    return True


def _is_aged(pair):
    """Tell whether anything is a tuple of a thing and a whole number."""
    if not isinstance(pair, tuple) or len(pair) != 2:
        return False
    return is_thing(pair[0]) and is_whole(pair[1])


def limit_of(thing, drawers, graces):
    """Tell the age at which the thing is put away."""
    return drawers + graces.get(thing, 0)


def step(standing, drawers, graces, thing):
    """Ask for a thing: whether it hits, the standing behind it, what it puts away."""
    others = [(other, age) for other, age in standing if other != thing]
    if len(others) < len(standing):
        return True, [(thing, 0)] + others, []
    older = [(other, age + 1) for other, age in others]
    kept = [(other, age) for other, age in older if age < limit_of(other, drawers, graces)]
    gone = [other for other, age in older if age >= limit_of(other, drawers, graces)]
    if limit_of(thing, drawers, graces) >= 1:
        kept = [(thing, 0)] + kept
    return False, kept, gone


def hear(asks, table, now, drawers, graces):
    """Hear asks, one by one, and tell of each whether it is a hit.

    The table has of each thing how many misses there were by its last ask, now is
    how many there were so far: the difference is the thing's age, and it is there
    while this is below its limit. The table is brought up to date.
    """
    hits = []
    for thing in asks:
        hit = thing in table and now - table[thing] < drawers + graces.get(thing, 0)
        if not hit:
            now += 1
        table[thing] = now
        hits.append(hit)
    return hits


def heard(asks, drawers, graces, standing):
    """Tell ask by ask, from a standing, whether it is a hit."""
    return hear(asks, table_of(standing), 0, drawers, graces)


def table_of(standing):
    """Tell a standing as hear's table, of no misses so far."""
    return {thing: -age for thing, age in standing}


def left_behind(asks, drawers, graces, standing):
    """Tell the standing that asks leave behind."""
    table = table_of(standing)
    now = hear(asks, table, 0, drawers, graces).count(False)
    latest = {thing: True for thing in asks[::-1]}
    for thing, _ in standing:
        latest[thing] = True
    aged = [(thing, now - table[thing]) for thing in latest]
    return [(thing, age) for thing, age in aged if age < limit_of(thing, drawers, graces)]


def lost(asks, drawers, graces, standing):
    """Tell for each miss that puts something away its place and the things, as they stood."""
    missed = missed_places(heard(asks, drawers, graces, standing))
    gone = []
    for thing, since, place in _stretches(asks, missed, standing):
        limit = limit_of(thing, drawers, graces)
        if limit >= 1 and since + limit <= len(missed):
            gone.append((missed[since + limit - 1], -place, thing))
    told = {}
    for at, _, thing in sorted(gone):
        told.setdefault(at, []).append(thing)
    return [(at, told[at]) for at in told]


def _stretches(asks, missed, standing):
    """Tell where nothing more was asked of a thing until it was missed, or till the end.

    Of each: the thing, how many misses there were by its last ask ahead, and this
    ask's place; places below 0 are those of what stood there at first.
    """
    last = {thing: (-age, -at) for at, (thing, age) in enumerate(standing, start=1)}
    now = 0
    told = []
    for place, thing in enumerate(asks):
        if now < len(missed) and missed[now] == place:
            now += 1
            if thing in last:
                told.append((thing, last[thing][0], last[thing][1]))
        last[thing] = (now, place)
    return told + [(thing, last[thing][0], last[thing][1]) for thing in last]


def missed_places(hits):
    """Tell the places of the misses, rising."""
    return [place for place, hit in enumerate(hits) if not hit]


def misses_since(asks, hits):
    """Tell of each ask the misses between its thing's last ask and it, None of a first one."""
    told = []
    last = {}
    now = 0
    for thing, hit in zip(asks, hits):
        told.append(now - last[thing] if thing in last else None)
        if not hit:
            now += 1
        last[thing] = now
    return told


def _looked(row, drawers, graces, standing):
    """Tell a near row's asks, graces and a standing, all of them looked at."""
    check_row(row)
    check_drawers(drawers)
    known = checked_graces(graces)
    start = checked_standing(standing, drawers, known)
    check_near(row)
    return laid_out(row), known, start


def _last_known(asks, place, standing):
    """Tell from where on a thing's misses count, and its age there, None of a new one."""
    for at in range(place - 1, -1, -1):
        if asks[at] == asks[place]:
            return at + 1, 0
    for thing, age in standing:
        if thing == asks[place]:
            return 0, age
    return 0, None
