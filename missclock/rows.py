"""Rows of asks, also rows that ask more often than anybody could go through.

The told functions look at what is handed in and refuse it; the others, that
take a row, take a right one and serve the other files, too.
"""

from missclock.errors import NoPlace, NoRow, NoThing, TooMany
from missclock.kinds import is_whole

LONGEST_THING = 8
MOST_TIMES = 10 ** 30
MOST_NEAR = 400

# No row that a machine holds goes so deep, but a list that holds itself does:
# it can't be laid out, so it is no row.
DEEPEST_ROW = 2 * 10 ** 6


def is_thing(thing):
    """Tell whether anything is a thing."""
    return isinstance(thing, str) and 1 <= len(thing) <= LONGEST_THING and are_small(thing)


def are_things(values):
    """Tell of a list, or a dict's keys, whether all of them are things.

    Their letters are looked at all at once: one by one takes far longer.
    """
    texts = [text for text in values if isinstance(text, str) and 1 <= len(text) <= LONGEST_THING]
    return len(texts) == len(values) and are_small("".join(texts))


def are_small(signs):
    """Tell whether the signs of a text, perhaps none, are small letters."""
    return signs == "" or signs.isascii() and signs.isalpha() and signs == signs.lower()


def is_row(thing):
    """Tell whether anything is a row, by its form, however great."""
    if not isinstance(thing, (list, tuple)):
        return False
    waiting = [(thing, 0)]
    while waiting:
        row, deep = waiting.pop()
        if deep > DEEPEST_ROW:
            return False
        agains = [part for part in row if not isinstance(part, str)]
        for part in agains:
            if not _looks_again(part):
                return False
            waiting.append((part[0], deep + 1))
        if len(agains) < len(row) and not are_things({part: True for part in row if isinstance(part, str)}):
            return False
    return True


def _looks_again(part):
    """Tell whether anything is an again, but for what its row is made of."""
    if not isinstance(part, tuple) or len(part) != 2:
        return False
    row, times = part
    if not isinstance(row, (list, tuple)) or len(row) == 0:
        return False
    return is_whole(times) and 1 <= times <= MOST_TIMES


def asks_in(row):
    """Tell how many asks there are."""
    check_row(row)
    return count_asks(row)


def ask_at(row, place):
    """Tell the thing asked at a place."""
    check_row(row)
    check_place(place, count_asks(row))
    return thing_at(row, place)


def things_of(row):
    """Tell the unlike things, in the order of their first asks."""
    check_row(row)
    return list(_counts(row))


def last_of(row):
    """Tell the unlike things, in the order of their last asks, the latest first."""
    check_row(row)
    return _latest_first(row)


def often(row):
    """Tell how often each thing is asked, in the order of first asks."""
    check_row(row)
    return _counts(row)


def asked_ahead(row, thing, place):
    """Tell how often a thing is asked ahead of a place."""
    check_row(row)
    check_thing(thing)
    check_place(place, count_asks(row) + 1)
    return _often_ahead(row, thing, place)


def so_manieth(row, thing, number):
    """Tell the place of the thing's so-manieth ask, from 0 on, or None."""
    check_row(row)
    check_thing(thing)
    if not is_whole(number) or number < 0:
        raise NoPlace(number)
    if number >= _often_in(row, thing):
        return None
    return _place_of(row, thing, number)


def asked_before(row, place):
    """Tell where the thing at a place was last asked ahead of it, or None."""
    check_row(row)
    check_place(place, count_asks(row))
    thing = thing_at(row, place)
    ahead = _often_ahead(row, thing, place)
    if ahead == 0:
        return None
    return _place_of(row, thing, ahead - 1)


def halves(row, place):
    """Tell the row of what is asked ahead of a place, and that of the rest."""
    check_row(row)
    check_place(place, count_asks(row) + 1)
    return _parted(row, place)


def near(row):
    """Tell the things that a near row asks, one by one."""
    check_row(row)
    check_near(row)
    return laid_out(row)


def check_row(row):
    """Refuse what is no row."""
    if not is_row(row):
        raise NoRow("this is no row")


def check_near(row):
    """Refuse a row of more asks than a near row has."""
    many = count_asks(row)
    if many > MOST_NEAR:
        raise TooMany(many)


def check_thing(thing):
    """Refuse what is no thing."""
    if not is_thing(thing):
        raise NoThing(thing)


def check_place(place, many):
    """Refuse what is none of so many places from 0 on."""
    if not is_whole(place) or not 0 <= place < many:
        raise NoPlace(place)


def count_asks(row):
    """Tell how many asks a right row has."""
    agains = [part for part in row if not isinstance(part, str)]
    return len(row) - len(agains) + sum([count_asks(inner) * times for inner, times in agains])


def _part_asks(part):
    if isinstance(part, str):
        return 1
    inner, times = part
    return count_asks(inner) * times


def thing_at(row, place):
    """Tell the thing asked at a place that the right row has."""
    at, rest = _part_with(row, place)
    part = row[at]
    if isinstance(part, str):
        return part
    inner = part[0]
    return thing_at(inner, rest % count_asks(inner))


def laid_out(row):
    """Tell the asks of a right row one by one: only of one that has few."""
    asks = []
    for part in row:
        if isinstance(part, str):
            asks.append(part)
        else:
            inner, times = part
            asks.extend(laid_out(inner) * times)
    return asks


def asked_last(asks):
    """Tell of each ask the place at which its thing was last asked ahead, or None."""
    told = []
    last = {}
    for place, thing in enumerate(asks):
        told.append(last.get(thing))
        last[thing] = place
    return told


def told_row(row):
    """Tell a right row as a new list, with new lists within its agains."""
    return [_told_part(part) for part in row]


def _part_with(row, place):
    """Tell which part a place lies in, and the place within this part.

    Behind all asks that is as many as there are parts.
    """
    for at, part in enumerate(row):
        many = _part_asks(part)
        if place < many:
            return at, place
        place -= many
    return len(row), place


def _counts(row):
    """Tell how often each thing is asked, in the order of first asks."""
    counts = {}
    for part in row:
        if isinstance(part, str):
            counts[part] = counts.get(part, 0) + 1
        else:
            inner, times = part
            within = _counts(inner)
            for thing in within:
                counts[thing] = counts.get(thing, 0) + within[thing] * times
    return counts


def _latest_first(row):
    """Tell the unlike things, the one last asked first."""
    found = {}
    for part in row[::-1]:
        if isinstance(part, str):
            found[part] = True
        else:
            for thing in _latest_first(part[0]):
                found[thing] = True
    return list(found)


def _often_in(row, thing):
    """Tell how often a row asks a thing."""
    return sum([_part_often(part, thing) for part in row])


def _part_often(part, thing):
    if isinstance(part, str):
        return 1 if part == thing else 0
    inner, times = part
    return _often_in(inner, thing) * times


def _often_ahead(row, thing, place):
    """Tell how often a row asks a thing ahead of one of its places."""
    at, rest = _part_with(row, place)
    many = _often_in(row[:at], thing)
    if rest == 0:
        return many
    inner = row[at][0]
    turns, within = divmod(rest, count_asks(inner))
    return many + turns * _often_in(inner, thing) + _often_ahead(inner, thing, within)


def _place_of(row, thing, number):
    """Tell the place of a thing's so-manieth ask, of which there are enough."""
    at = 0
    while number >= _part_often(row[at], thing):
        number -= _part_often(row[at], thing)
        at += 1
    ahead = count_asks(row[:at])
    if isinstance(row[at], str):
        return ahead
    inner = row[at][0]
    turns, rest = divmod(number, _often_in(inner, thing))
    return ahead + turns * count_asks(inner) + _place_of(inner, thing, rest)


def _parted(row, place):
    """Tell two told rows: what is asked ahead of a place, and the rest."""
    at, rest = _part_with(row, place)
    if rest == 0:
        return told_row(row[:at]), told_row(row[at:])
    inner, times = row[at]
    turns, within = divmod(rest, count_asks(inner))
    if within == 0:
        ahead, behind, left = [], [], times - turns
    else:
        ahead, behind = _parted(inner, within)
        left = times - turns - 1
    first = told_row(row[:at]) + _again(inner, turns) + ahead
    second = behind + _again(inner, left) + told_row(row[at + 1:])
    return first, second


def _again(inner, times):
    """Tell the parts that ask a row so many times: none for no times."""
    if times == 0:
        return []
    return [(told_row(inner), times)]


def _told_part(part):
    if isinstance(part, str):
        return part
    inner, times = part
    return (told_row(inner), times)
