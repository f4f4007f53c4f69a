"""Plain ways to the same answers, and rows made up alike at each run: for the tests alone."""

import itertools
import random


def lay(row):
    """The asks of a row, one by one."""
    asks = []
    for part in row:
        if isinstance(part, str):
            asks.append(part)
        else:
            for _ in range(part[1]):
                asks.extend(lay(part[0]))
    return asks


def in_drawers(asks, drawers):
    """Point 1 word by word: the truths, the losses ask by ask, and the drawers behind."""
    chest = [[] for _ in range(drawers)]
    hits = []
    gone = []
    for thing in asks:
        at = [index for index, drawer in enumerate(chest) if thing in drawer]
        hits.append(bool(at))
        if at:
            chest[at[0]].remove(thing)
            chest[0].insert(0, thing)
            gone.append([])
        else:
            gone.append(chest.pop())
            chest.insert(0, [thing])
    return hits, gone, chest


def in_ages(asks, drawers, graces, standing):
    """Point 12 word by word, by a table of ages: the truths, the losses, the standing."""
    ages = dict(standing)
    order = [thing for thing, _ in standing]
    hits = []
    gone = []
    for thing in asks:
        hits.append(thing in ages)
        away = []
        if thing not in ages:
            for other in order:
                ages[other] += 1
            away = [other for other in order if ages[other] >= drawers + graces.get(other, 0)]
            for other in away:
                del ages[other]
        gone.append(away)
        order = [other for other in order if other in ages and other != thing]
        if thing in ages or drawers + graces.get(thing, 0) >= 1:
            ages[thing] = 0
            order = [thing] + order
    return hits, gone, [(thing, ages[thing]) for thing in order]


def depths_by_clerks(asks, graces, most):
    """Point 4: the greatest number of drawers, to most, that misses each ask, None of all."""
    walks = [in_ages(asks, drawers, graces, [])[0] for drawers in range(1, most + 1)]
    told = []
    for place in range(len(asks)):
        missing = [drawers for drawers, hits in enumerate(walks, start=1) if not hits[place]]
        if missing != list(range(1, len(missing) + 1)):
            raise AssertionError("a clerk with more drawers misses what one with fewer hits")
        told.append(None if len(missing) == most else len(missing))
    return told


def depth_by_words(since, grace, most=40):
    """Point 20 word by word, to most: the depth by the depths of the asks since."""
    best = 0
    for d in range(1, most + 1):
        if len([x for x in since if x is None or x >= d]) >= d + grace:
            best = d
    return best


def last_ahead(asks, place):
    """Where the thing at a place was last asked ahead of it, or None."""
    ahead = [at for at in range(place) if asks[at] == asks[place]]
    return ahead[-1] if ahead else None


def round_about(asks, place):
    """The places of the asks between the last ask of a place's thing, in the round ahead if need be, and it."""
    window = []
    at = place - 1
    while asks[at % len(asks)] != asks[place]:
        window.append(at % len(asks))
        at -= 1
    return window


class PlainClerk:
    """Points 73 and 74 word by word, by the things that are there, the one asked last first."""

    def __init__(self, drawers, graces=None, standing=None):
        self.drawers = drawers
        self.graces = dict(graces or {})
        self.held = list(standing or [])
        self.asked = 0
        self.missed = 0

    def hear(self, asks):
        """The truths, ask by ask."""
        hits, _, self.held = in_ages(asks, self.drawers, self.graces, self.held)
        self.asked += len(asks)
        self.missed += hits.count(False)
        return hits

    def put_away(self, thing):
        self.held = [(other, age) for other, age in self.held if other != thing]

    def limited(self, drawers, thing=None, grace=0):
        """Other drawers, and another grace of one thing: who comes to a limit is gone."""
        self.drawers = drawers
        if thing is not None:
            self.graces[thing] = grace
        self.held = [(other, age) for other, age in self.held
                     if age < drawers + self.graces.get(other, 0)]

    def told_graces(self):
        return {thing: self.graces[thing] for thing in sorted(self.graces) if self.graces[thing]}

    def twin(self):
        other = PlainClerk(self.drawers, self.graces, self.held)
        other.asked, other.missed = self.asked, self.missed
        return other


def all_rows(most, letters="abc"):
    """All rows of so many asks, or fewer, of these things."""
    for many in range(most + 1):
        for asks in itertools.product(letters, repeat=many):
            yield list(asks)


def all_lists(many):
    """All rising lists of some of so many places."""
    for size in range(many + 1):
        for places in itertools.combinations(range(many), size):
            yield list(places)


def some_names(many):
    """So many unlike things of two letters."""
    return [chr(97 + at // 26) + chr(97 + at % 26) for at in range(many)]


def some_asks(chance, many, letters):
    return [chance.choice(letters) for _ in range(many)]


def some_graces(chance, letters):
    return {thing: chance.randint(-3, 3) for thing in letters if chance.random() < 0.5}


def some_standing(chance, drawers, graces, letters):
    """A standing that is let, whether it came of asks or not."""
    things = [thing for thing in letters if drawers + graces.get(thing, 0) >= 1]
    aged = []
    for thing in chance.sample(things, chance.randint(0, len(things))):
        aged.append((thing, chance.randrange(drawers + graces.get(thing, 0))))
    return sorted(aged, key=lambda pair: pair[1])


def some_row(chance, letters, deep=3):
    """A row with agains, of lists and of tuples."""
    parts = []
    for _ in range(chance.randint(1, 3)):
        if deep and chance.random() < 0.4:
            parts.append((some_row(chance, letters, deep - 1), chance.randint(1, 4)))
        else:
            parts.append(chance.choice(letters))
    return tuple(parts) if chance.random() < 0.3 else parts


def chance_of(seed):
    return random.Random(seed)
