"""Checks of numbers and of tuples of numbers [0.1, 0.4]."""

from mayrows.errors import InvalidNumber, InvalidOperation

# The greatest integer of sixty digits: what is passed is not greater [0.1].
MOST_INTEGER = 10 ** 60 - 1
# The greatest number of letters that can be seen ahead [0.7].
MOST_AHEAD = 3


def is_number(value, low, high):
    """Whether the value is an integer, and no boolean, from `low` to `high`."""
    return isinstance(value, int) and not isinstance(value, bool) and low <= value <= high


def is_integer(value):
    """Whether the value is an integer of at most sixty digits, and no boolean."""
    return is_number(value, -MOST_INTEGER, MOST_INTEGER)


def are_lines(reads, writes):
    """Whether both are a number of lines, 1 or 2."""
    return is_number(reads, 1, 2) and is_number(writes, 1, 2)


def check_number(given, low, high):
    """Raise `InvalidNumber` unless `given` is an integer from `low` to `high`."""
    if not is_number(given, low, high):
        raise InvalidNumber(given)


def check_ahead(ahead):
    """Raise `InvalidNumber` unless `ahead` is an integer from 0 to 3."""
    check_number(ahead, 0, MOST_AHEAD)


def check_boolean(value):
    """Raise `InvalidOperation` unless the value is a boolean."""
    if not isinstance(value, bool):
        raise InvalidOperation("this is no boolean")


def are_numbers_below(value, bound):
    """Whether the value is a tuple of integers from 0 to below the bound."""
    return isinstance(value, tuple) and all([is_number(part, 0, bound - 1) for part in value])


def is_tuple_below(value, bounds):
    """Whether the value is a tuple with an integer from 0 to below each bound, one for each bound."""
    if not isinstance(value, tuple) or len(value) != len(bounds):
        return False
    return all([is_number(part, 0, bound - 1) for part, bound in zip(value, bounds)])


def are_tuples_below(value, bounds):
    """Whether the value is a tuple of tuples below these bounds."""
    return isinstance(value, tuple) and all([is_tuple_below(part, bounds) for part in value])


def are_unlike(parts):
    """Whether no two of these numbers, or tuples of numbers, are equal."""
    return len(set(parts)) == len(parts)


def are_ascending(parts):
    """Whether each of these numbers, or tuples of numbers, is less than the one behind it."""
    return all([part < following for part, following in zip(parts, parts[1:])])
