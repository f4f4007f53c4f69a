"""Texts: how rows, standings, graces, depths and histories are written, each in one way, and read."""

from missclock.clerks import checked_graces, is_aged
from missclock.depths import are_depths
from missclock.errors import NoDepths, NoGraces, NoHistory, NoStanding, NoText
from missclock.figures import by_figures, number_of, signed_of
from missclock.rows import MOST_TIMES, check_row, is_thing
from missclock.states import is_deed

MOST_PARTS = 400
MOST_THINGS = 60
MOST_WITHIN = 4


def show_row(row):
    """Tell how a row is written."""
    check_row(row)
    return _row_text(row)


def show_standing(standing):
    """Tell how a standing is written."""
    if not is_aged(standing):
        raise NoStanding("this is no standing")
    return " ".join([f"{thing}:{by_figures(age)}" for thing, age in standing])


def show_graces(graces):
    """Tell how graces are written."""
    if graces is None:
        raise NoGraces("these are no graces")
    known = checked_graces(graces)
    return " ".join([f"{thing}:{by_figures(known[thing])}" for thing in sorted(known)])


def show_depths(depths):
    """Tell how depths are written."""
    if not are_depths(depths):
        raise NoDepths("these are no depths")
    return " ".join(["-" if depth is None else by_figures(depth) for depth in depths])


def show_history(history):
    """Tell how a history is written."""
    if not isinstance(history, list) or not all([is_deed(deed) for deed in history]):
        raise NoHistory("this is no history")
    return ", ".join([_deed_text(deed) for deed in history])


def read_row(text):
    """Tell the row that a text writes."""
    _check_text(text)
    row, fault = row_in(text)
    if row is None:
        raise NoText(fault)
    return row


def read_standing(text):
    """Tell the standing that a text writes."""
    _check_text(text)
    told = []
    least = 0
    known = {}
    for at, word in enumerate(_words(text)):
        thing, figures = _parted(word)
        age = number_of(figures)
        if not is_thing(thing) or thing in known or age is None or age < least:
            raise NoText(at)
        told.append((thing, age))
        known[thing] = True
        least = age
    return told


def read_graces(text):
    """Tell the graces that a text writes."""
    _check_text(text)
    told = {}
    last = ""
    for at, word in enumerate(_words(text)):
        thing, figures = _parted(word)
        grace = signed_of(figures)
        if not is_thing(thing) or thing <= last or grace is None:
            raise NoText(at)
        told[thing] = grace
        last = thing
    return told


def read_depths(text):
    """Tell the depths that a text writes."""
    _check_text(text)
    told = []
    for at, word in enumerate(_words(text)):
        depth = number_of(word)
        if depth is None and word != "-":
            raise NoText(at)
        told.append(depth)
    return told


def read_history(text):
    """Tell the history that a text writes."""
    _check_text(text)
    told = []
    for at, piece in enumerate(text.split(", ") if text else []):
        deed = _deed_in(piece)
        if deed is None:
            raise NoText(at)
        told.append(deed)
    return told


def row_in(text):
    """Tell the row that a text writes, and None; or None, and the number of the word at fault.

    Kept are the rows that are begun and not ended, the whole one ahead of those within
    agains, and of these agains the times.
    """
    words = _words(text)
    rows = [[]]
    times = []
    parts = 0
    deepest = 0
    things = {}
    for at, word in enumerate(words):
        core = word.rstrip(")")
        pieces = core.split("*(")
        begun = [number_of(piece) for piece in pieces[:-1]]
        ended = len(word) - len(core)
        if not is_thing(pieces[-1]) or not _are_times(begun) or ended > len(times) + len(begun):
            return None, at
        times.extend(begun)
        rows.extend([[] for _ in begun])
        rows[-1].append(pieces[-1])
        parts += len(pieces)
        deepest = max(deepest, len(times))
        things[pieces[-1]] = True
        for _ in range(ended):
            inner = rows.pop()
            rows[-1].append((inner, times.pop()))
    if times or parts > MOST_PARTS or len(things) > MOST_THINGS or deepest > MOST_WITHIN:
        return None, len(words)
    return rows[0], None


def _check_text(text):
    """Refuse what is no text."""
    if not isinstance(text, str):
        raise NoText(None)


def _words(text):
    """Tell the words of a text."""
    return text.split(" ") if text else []


def _parted(word):
    """Tell what is ahead of a word's colon, and what is behind it."""
    ahead, _, behind = word.partition(":")
    return ahead, behind


def _are_times(numbers):
    """Tell of numbers, or None for what is none, whether agains may have them as times."""
    return all([number is not None and 1 <= number <= MOST_TIMES for number in numbers])


def _deed_in(text):
    """Tell the deed that a text writes, or None."""
    if text.startswith("row (") and text.endswith(")"):
        row, _ = row_in(text[5:-1])
        return None if row is None else ("row", row)
    words = text.split(" ")
    deed = tuple(words)
    if len(words) == 3:
        deed = (words[0], words[1], signed_of(words[2]))
    return deed if is_deed(deed) else None


def _deed_text(deed):
    if deed[0] == "row":
        return f"row ({_row_text(deed[1])})"
    if deed[0] == "grace":
        return f"grace {deed[1]} {by_figures(deed[2])}"
    return " ".join(deed)


def _row_text(row):
    return " ".join([_part_text(part) for part in row])


def _part_text(part):
    if isinstance(part, str):
        return part
    inner, times = part
    return f"{by_figures(times)}*({_row_text(inner)})"
