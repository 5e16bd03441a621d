"""Pledges: what a book that is worked on has to keep."""

from mendbooks.base.words import is_count
from mendbooks.decide.least import is_good
from mendbooks.decide.tables import DEEDS
from mendbooks.decide.uses import most_drawings
from mendbooks.mend.deeds import failing_place, is_deed
from mendbooks.trees.shapes import Shape, right_shape_of


def is_pledge(scheme, value):
    """Whether the value is a pledge for a scheme."""
    if not isinstance(value, tuple) or not 2 <= len(value) <= 3:
        return False
    if len(value) == 2:
        return value[0] == "good" and value[1] in DEEDS
    if value[0] == "most":
        return value[1] in ("put", "cut") and is_count(value[2])
    shape = right_shape_of(scheme, value[1])
    return value[0] == "done" and shape is not None and is_deed(shape, value[2])


def is_among(pledges, value):
    """Whether the value is one of these pledges; True and False are no numbers in it."""
    return value in pledges and not _has_boolean(value)


def holds(book, pledge):
    """Whether a pledge for the scheme of a book holds."""
    word, told, *rest = pledge
    if word == "done":
        return failing_place(book, Shape(book.scheme, told), rest[0]) is None
    if not is_good(book, told):
        return False
    if word == "good":
        return True
    most = most_drawings(book, told)
    return most is not None and most <= rest[0]


def _has_boolean(value):
    """Whether True or False stands anywhere in a value that equals a pledge."""
    if isinstance(value, tuple):
        return any([_has_boolean(part) for part in value])
    return isinstance(value, bool)
