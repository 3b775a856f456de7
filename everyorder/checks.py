"""Questions about values that are handed in and may be of any kind."""


def is_integer(value):
    """Tell whether the value is an int that is not a bool."""
    return isinstance(value, int) and not isinstance(value, bool)


def is_from(value, low):
    """Tell whether the value is an integer from low on."""
    return is_integer(value) and low <= value


def is_between(value, low, high):
    """Tell whether the value is an integer from low to high."""
    return is_integer(value) and low <= value <= high


def first_wrong(row, size):
    """Return the index of the first member that is no place of this size or has come before; None if there is none."""
    has_come = [False] * size
    for index, member in enumerate(row):
        if not is_between(member, 0, size - 1) or has_come[member]:
            return index
        has_come[member] = True
    return None
