"""Integers and names: the values that all others are built from."""

MAX_LETTERS = 8
MAX_DIGITS = 60

# The least number with more than MAX_DIGITS digits; an exponent has to be a literal.
_TOO_LONG = 10 ** 60


def is_integer(value):
    """Whether the value is an integer of at most sixty digits; True and False are none."""
    return isinstance(value, int) and not isinstance(value, bool) and abs(value) < _TOO_LONG


def is_count(value):
    """Whether the value is an integer of at least 0."""
    return is_integer(value) and value >= 0


def is_index(value, many):
    """Whether the value is an integer from 0 on and below `many`."""
    return is_count(value) and value < many


def is_name(value):
    """Whether the value is a name: one to eight letters from a to z."""
    if not isinstance(value, str) or not 1 <= len(value) <= MAX_LETTERS:
        return False
    return value.isascii() and value.isalpha() and value.islower()


def is_names(value):
    """Whether the value is an ascending tuple of names."""
    if not isinstance(value, tuple) or not all([is_name(word) for word in value]):
        return False
    return list(value) == sorted(set(value))


def words_of(value):
    """The words between the blanks of a line; no words for a value that is no string."""
    return tuple(value.split(" ")) if isinstance(value, str) else ()


def is_flat(value):
    """Whether the value is a tuple of strings and integers: only such a tuple is looked up."""
    return isinstance(value, tuple) and all([isinstance(part, str) or is_integer(part) for part in value])


def is_indices(value):
    """Whether the value is a tuple of integers, as paths are."""
    return isinstance(value, tuple) and all([is_integer(part) for part in value])
