"""What a value is by its kind, and copies of values of any kind."""

# Lists that lie deeper within one another than this are not copied: a list
# that holds itself would never be copied to its end.
DEEPEST_COPY = 12


def is_whole(value):
    """Tell whether anything is a whole number: an int that is no truth."""
    return isinstance(value, int) and not isinstance(value, bool)


def are_wholes(values):
    """Tell of a list of anything whether all in it are whole numbers."""
    whole = [value for value in values if isinstance(value, int) and value is not True and value is not False]
    return len(whole) == len(values)


def copied(value, deep=DEEPEST_COPY):
    """Tell anything, its lists, tuples and dicts as new ones."""
    if deep == 0:
        return value
    if isinstance(value, list):
        return [copied(item, deep - 1) for item in value]
    if isinstance(value, tuple):
        return tuple([copied(item, deep - 1) for item in value])
    if isinstance(value, dict):
        return {key: copied(value[key], deep - 1) for key in value}
    return value
