"""The refusals: one class for each kind, all straight under MissError.

A refusal keeps its fields as copies, so that what is done later to a list that
was handed in doesn't change it. No field stands in a message: a number may have
more figures than Python writes out.
"""

from missclock.kinds import copied


class MissError(ValueError):
    """Any refusal."""


class NoThing(MissError):
    """What should be a thing is none."""

    def __init__(self, thing):
        super().__init__("no such thing")
        self.thing = copied(thing)


class NoPlace(MissError):
    """What should be a place, or a number from 0 on, is none."""

    def __init__(self, place):
        super().__init__("no such place")
        self.place = copied(place)


class TooMany(MissError):
    """There are more than may be handed in here."""

    def __init__(self, many):
        super().__init__("too many")
        self.many = copied(many)


class NoText(MissError):
    """The text writes nothing: at is the first word that can't stand there."""

    def __init__(self, at):
        super().__init__("no such text")
        self.at = copied(at)


class NoRow(MissError):
    """What should be a row is none."""


class NoNumber(MissError):
    """What should be a whole number from 0 on is none."""


class NoDrawers(MissError):
    """What should be a number of drawers is none."""


class NoGraces(MissError):
    """What should be graces is none."""


class NoStanding(MissError):
    """What should be a standing is none."""


class NoWish(MissError):
    """What is wished for can't be wished."""


class NoDepths(MissError):
    """What should be a list of depths is none."""


class NoSteady(MissError):
    """What should be a steady list is none."""


class Nothing(MissError):
    """There is nothing to take back, or to do again."""


class NoHistory(MissError):
    """What should be a history is none."""


class NoName(MissError):
    """What should be a name, or the name of a clerk, is none."""


class Taken(MissError):
    """The name has a clerk."""


class NoForm(MissError):
    """The text has no form that the desk knows."""
