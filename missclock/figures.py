"""Whole numbers by figures, however many: Python alone writes and reads some thousands at most."""

FIGURES = 64
TURN = 10 ** 64


def by_figures(number):
    """Tell the text that writes a whole number."""
    if number < 0:
        return "-" + by_figures(-number)
    pieces = []
    while number >= TURN:
        number, rest = divmod(number, TURN)
        pieces.append(str(rest).zfill(FIGURES))
    pieces.append(str(number))
    return "".join(pieces[::-1])


def number_of(text):
    """Tell the whole number from 0 on that a text writes, or None."""
    if not text.isascii() or not text.isdigit() or text[0] == "0" and text != "0":
        return None
    first = len(text) % FIGURES
    number = int(text[:first]) if first else 0
    for at in range(first, len(text), FIGURES):
        number = number * TURN + int(text[at:at + FIGURES])
    return number


def signed_of(text):
    """Tell the whole number that a text, perhaps with a minus ahead, writes, or None."""
    if not text.startswith("-"):
        return number_of(text)
    number = number_of(text[1:])
    return -number if number else None
