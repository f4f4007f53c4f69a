"""One clerk: what it hits, misses and puts away, from any standing.

The told functions refuse what is wrong; the others, that take graces or a
standing, take right ones, with {} for no graces and [] for the empty standing.
"""

from missclock.errors import NoDrawers, NoGraces, NoStanding
from missclock.kinds import is_whole
from missclock.rows import check_near, check_place, check_row, check_thing, count_asks, is_thing, laid_out

MOST_DRAWERS = 10 ** 30


def is_standing(drawers, thing, *, graces=None):
    """Tell of anything whether it is a standing of so many drawers."""
    check_drawers(drawers)
    return stands(thing, drawers, checked_graces(graces))


def walk(row, drawers, *, graces=None, standing=None):
    """Tell ask by ask whether it is a hit."""
    hits, _, _ = _heard(row, drawers, graces, standing)
    return hits


def misses(row, drawers, *, graces=None, standing=None):
    """Tell how many asks are missed."""
    hits, _, _ = _heard(row, drawers, graces, standing)
    return hits.count(False)


def behind(row, drawers, *, graces=None, standing=None):
    """Tell the standing behind the row."""
    _, _, after = _heard(row, drawers, graces, standing)
    return after


def losses(row, drawers, *, graces=None, standing=None):
    """Tell for each miss that puts something away its place and the things."""
    _, gone, _ = _heard(row, drawers, graces, standing)
    return [(place, things) for place, things in enumerate(gone) if things]


def asked(drawers, standing, thing, *, graces=None):
    """Tell of one ask: whether it hits, the standing behind it, what it puts away."""
    check_drawers(drawers)
    known = checked_graces(graces)
    start = checked_standing(standing, drawers, known)
    check_thing(thing)
    return step(start, drawers, known, thing)


def lying(drawers, standing, *, graces=None):
    """Tell what lies where: for each age that something has, rising, the things."""
    check_drawers(drawers)
    known = checked_graces(graces)
    aged = {}
    for thing, age in checked_standing(standing, drawers, known):
        aged.setdefault(age, []).append(thing)
    return [(age, aged[age]) for age in aged]


def reason(row, drawers, place, *, graces=None, standing=None):
    """Tell why the ask at a place is what it is."""
    check_row(row)
    check_drawers(drawers)
    check_place(place, count_asks(row))
    hits, _, _ = _heard(row, drawers, graces, standing)
    asks = laid_out(row)
    limit = limit_of(asks[place], drawers, checked_graces(graces))
    if limit < 1:
        return ("never",)
    since, age = _last_known(asks, place, standing)
    if age is None:
        return ("new",)
    missed = [at for at in range(since, place) if not hits[at]]
    if hits[place]:
        return ("hit", missed)
    return ("miss", missed[:limit - age])


def are_misses(row, drawers, thing, *, graces=None, standing=None):
    """Tell of anything whether it is the list of the places of the misses."""
    hits, _, _ = _heard(row, drawers, graces, standing)
    missed = [place for place, hit in enumerate(hits) if not hit]
    if not isinstance(thing, list) or len(thing) != len(missed):
        return False
    return all([is_whole(one) and one == place for one, place in zip(thing, missed)])


def check_drawers(drawers):
    """Refuse what is no number of drawers."""
    if not is_whole(drawers) or not 1 <= drawers <= MOST_DRAWERS:
        raise NoDrawers("this is no number of drawers")


def checked_graces(graces):
    """Tell graces as a dict, {} for None; refuse what is none."""
    if graces is None:
        return {}
    if not is_graces(graces):
        raise NoGraces("these are no graces")
    return {thing: graces[thing] for thing in graces}


def is_graces(graces):
    """Tell whether anything is a dict from things to whole numbers."""
    if not isinstance(graces, dict):
        return False
    return all([is_thing(thing) and is_whole(grace) for thing, grace in graces.items()])


def checked_standing(standing, drawers, graces):
    """Tell a standing as a list, [] for None; refuse what is none."""
    if standing is None:
        return []
    if not stands(standing, drawers, graces):
        raise NoStanding("this is no standing")
    return list(standing)


def stands(thing, drawers, graces):
    """Tell of anything whether it is a standing."""
    if not isinstance(thing, list):
        return False
    named = {}
    least = 0
    for pair in thing:
        if not _is_aged(pair):
            return False
        name, age = pair
        if name in named or not least <= age < limit_of(name, drawers, graces):
            return False
        named[name] = True
        least = age
    return True


def _is_aged(pair):
    """Tell whether anything is a tuple of a thing and a whole number."""
    if not isinstance(pair, tuple) or len(pair) != 2:
        return False
    return is_thing(pair[0]) and is_whole(pair[1])


def limit_of(thing, drawers, graces):
    """Tell the age at which the thing is put away."""
    return drawers + graces.get(thing, 0)


def step(standing, drawers, graces, thing):
    """Ask for a thing: whether it hits, the standing behind it, what it puts away."""
    others = [(other, age) for other, age in standing if other != thing]
    if len(others) < len(standing):
        return True, [(thing, 0)] + others, []
    older = [(other, age + 1) for other, age in others]
    kept = [(other, age) for other, age in older if age < limit_of(other, drawers, graces)]
    gone = [other for other, age in older if age >= limit_of(other, drawers, graces)]
    if limit_of(thing, drawers, graces) >= 1:
        kept = [(thing, 0)] + kept
    return False, kept, gone


def _heard(row, drawers, graces, standing):
    """Hear a near row: the truths, what each ask puts away, the standing behind."""
    check_row(row)
    check_drawers(drawers)
    known = checked_graces(graces)
    now = checked_standing(standing, drawers, known)
    check_near(row)
    hits = []
    gone = []
    for thing in laid_out(row):
        hit, now, things = step(now, drawers, known, thing)
        hits.append(hit)
        gone.append(things)
    return hits, gone, now


def _last_known(asks, place, standing):
    """Tell from where on a thing's misses count, and its age there, None of a new one."""
    for at in range(place - 1, -1, -1):
        if asks[at] == asks[place]:
            return at + 1, 0
    for thing, age in standing or []:
        if thing == asks[place]:
            return 0, age
    return 0, None
