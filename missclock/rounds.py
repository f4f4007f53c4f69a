"""Rounds: rows that a clerk hears over and over, however often.

Within a round all asks but each thing's first one hang on the round's own misses. So
what a round does, from wherever it is begun, hangs on its WAY alone: which of those
first asks are hits. A way is a number: in binary figures a 1, then for each thing, in
the order of first asks, 1 for a hit and 0 for a miss. What comes of a way is kept, so
that it is heard one time. And behind two rounds running of one way no other way comes:
what the second one found was left by the first one, and what it leaves is the same.

A table has of each thing how many misses there were by its last ask, now is how many
there were so far. All that hear bring the table up to date and tell the new now.
"""


class Round:
    """A row, to be heard so many times running by a clerk whom begin told.

    Its parts are tuples (part, news): a thing or another Round, and which of its things,
    by their numbers, are asked in this row for the first time.
    """

    def __init__(self, row, times=1):
        self.times = times
        self.asks = 0
        self.parts = []
        self.limits = {}
        self.ahead = {}
        self.once = {}
        self.whole = {}
        known = {}
        for part in row:
            if isinstance(part, str):
                self.asks += 1
                self.parts.append((part, [] if part in known else [0]))
                known[part] = True
            else:
                within = Round(part[0], part[1])
                self.asks += within.asks * within.times
                self.parts.append((within, [at for at, thing in enumerate(within.things) if thing not in known]))
                for thing in within.things:
                    known[thing] = True
        self.things = list(known)


def begin(told, drawers, graces):
    """Have the round heard by a clerk with these drawers and graces from now on."""
    told.limits = {thing: drawers + graces.get(thing, 0) for thing in told.things}
    # Of a way so far: how many misses of the round lie ahead of the next first ask.
    told.ahead = {}
    # Of a way: the misses of one round, and of all its rounds, and the ages behind them.
    told.once = {}
    told.whole = {}
    for part, _ in told.parts:
        if not isinstance(part, str):
            begin(part, drawers, graces)


def hear_once(told, table, now):
    """Hear one round: tell its way, too."""
    way = _way(told, table, now)
    if way in told.once:
        return way, _left(told, told.once[way], table, now)
    start = now
    way, now = _learnt(told, table, now)
    told.once[way] = _outcome(told, table, now, start)
    return way, now


def hear_whole(told, table, now):
    """Hear all rounds: tell the way of the first one, too."""
    way = _way(told, table, now)
    if way in told.whole:
        return way, _left(told, told.whole[way], table, now)
    start = now
    way, now = hear_once(told, table, now)
    now = hear_on(told, table, now, way, told.times - 1)
    told.whole[way] = _outcome(told, table, now, start)
    return way, now


def hear_on(told, table, now, last, many):
    """Hear so many rounds behind one of this way, or behind none."""
    while many > 0:
        way, then = hear_once(told, table, now)
        many -= 1
        if way == last:
            return hear_alike(told, table, then, then - now, many)
        last = way
        now = then
    return now


def hear_alike(told, table, now, missed, many):
    """Hear so many rounds of which each misses as many as the one ahead."""
    for thing in told.things:
        table[thing] += missed * many
    return now + missed * many


def hear_standing(told, table, now):
    """Hear rounds until they stand: tell behind how many rounds they do, and what each then misses."""
    rounds = 0
    last = None
    while True:
        way, then = hear_once(told, table, now)
        if way == last:
            return rounds - 1, then - now, then
        rounds += 1
        last = way
        now = then


def hear_to(told, table, now, place):
    """Hear what the rounds ask ahead of a place."""
    if place == 0:
        return now
    turns, rest = divmod(place, told.asks)
    now = hear_on(told, table, now, None, turns)
    for part, _ in told.parts:
        many = asks_of(part)
        if rest < many:
            return now if isinstance(part, str) else hear_to(part, table, now, rest)
        rest -= many
        now = _hear_part(told, part, table, now)
    return now


def place_of_miss(told, table, now, number):
    """Tell the place of the so-manieth miss of the rounds, which have so many."""
    passed = 0
    last = None
    while True:
        before = dict(table)
        way, then = hear_once(told, table, now)
        missed = then - now
        if number < missed:
            return passed * told.asks + _place_within(told, before, now, number)
        number -= missed
        passed += 1
        now = then
        if way == last:
            # The miss is still to come: so each of the rounds that are all alike has one.
            many = number // missed
            number -= many * missed
            passed += many
            now = hear_alike(told, table, now, missed, many)
        last = way


def asks_of(part):
    """Tell how many asks a part has."""
    return 1 if isinstance(part, str) else part.asks * part.times


def is_there(told, thing, table, now):
    """Tell whether a thing of the round, were it asked now, is hit."""
    return thing in table and now - table[thing] < told.limits[thing]


def _way(told, table, now):
    """Tell the round's way, or as much of it as is known."""
    way = 1
    for thing in told.things:
        if way not in told.ahead:
            return way
        hit = is_there(told, thing, table, now + told.ahead[way])
        way = 2 * way + (1 if hit else 0)
    return way


def _outcome(told, table, now, start):
    """Tell the misses since the start, and the age of each of the round's things."""
    return now - start, [now - table[thing] for thing in told.things]


def _left(told, outcome, table, now):
    """Have an outcome come about."""
    missed, ages = outcome
    now += missed
    for thing, age in zip(told.things, ages):
        table[thing] = now - age
    return now


def _learnt(told, table, now):
    """Hear one round part by part, and keep what lies ahead of its first asks."""
    start = now
    way = 1
    for part, news in told.parts:
        if isinstance(part, str):
            hit = part in table and now - table[part] < told.limits[part]
            if news:
                told.ahead[way] = now - start
                way = 2 * way + (1 if hit else 0)
            if not hit:
                now += 1
            table[part] = now
        else:
            ahead = now - start
            inner, now = hear_whole(part, table, now)
            way = _joined(told, way, ahead, part, inner, news)
    return way, now


def _joined(told, way, ahead, part, inner, news):
    """Tell the way on through an inner round: with its things that are new here."""
    for at in news:
        behind = len(part.things) - at
        told.ahead[way] = ahead + part.ahead[inner >> behind]
        way = 2 * way + (inner >> (behind - 1) & 1)
    return way


def _hear_part(told, part, table, now):
    """Hear one part of the round."""
    if not isinstance(part, str):
        _, now = hear_whole(part, table, now)
        return now
    if not is_there(told, part, table, now):
        now += 1
    table[part] = now
    return now


def _place_within(told, table, now, number):
    """Tell the place of the so-manieth miss of one round, which has so many."""
    place = 0
    at = 0
    while True:
        part, _ = told.parts[at]
        before = table if isinstance(part, str) else dict(table)
        then = _hear_part(told, part, table, now)
        if number < then - now:
            return place if isinstance(part, str) else place + place_of_miss(part, before, now, number)
        number -= then - now
        place += asks_of(part)
        now = then
        at += 1
