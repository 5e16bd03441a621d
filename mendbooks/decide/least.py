"""Papers, which show that a book is good for a kind of deeds or is not, and trees in which deeds fail."""

from mendbooks.books.books import Book
from mendbooks.decide.chase import Chase, Failing
from mendbooks.decide.course import Course
from mendbooks.decide.judging import is_bad_paper, is_good_rows
from mendbooks.decide.tables import DEEDS, Table
from mendbooks.decide.ways import is_way, realized
from mendbooks.errors import InvalidBook, InvalidOperation
from mendbooks.ranks.ranks import existence_of
from mendbooks.trees.shapes import Shape

_MAX_WAY = 100


def paper(book, kind):
    """A paper for a book and a kind of deeds; a bad one has as few keys as possible."""
    table = Table(book, kind)
    return ("good", table.rows) if table.is_good else bad_paper(failing_pair(table))


def is_paper(book, kind, value):
    """Whether the value is a paper for a book and a kind of deeds."""
    if not isinstance(book, Book):
        raise InvalidBook("a paper is for a book")
    if kind not in DEEDS:
        raise InvalidOperation("no kind of deeds")
    course = Course(book, existence_of(book.scheme), kind)
    if not isinstance(value, tuple):
        return False
    if len(value) == 2:
        return value[0] == "good" and is_good_rows(course, value[1])
    return is_bad_paper(book, kind, value)


def is_good(book, kind):
    """Whether a book is good for a kind of deeds."""
    return Table(book, kind).is_good


def least_bad(book, kind):
    """A right shape and a deed that fails in it, or two right shapes, with as few keys as possible; or None."""
    table = Table(book, kind)
    return None if table.is_good else failing_pair(table)


def realize(book, kind, way):
    """A right shape and a deed, or two right shapes, whose mending goes along a way."""
    table = Table(book, kind)
    if not is_way(table, way) or len(way) > _MAX_WAY:
        raise InvalidOperation("no way from a start along rows of the table")
    return realized(table.course, way)


def failing_pair(table):
    """What `least_bad` tells of a table that is not good."""
    chase = Chase(table.course, Failing())
    pieces = chase.cheapest()
    return chase.grown(pieces)


def bad_paper(pair):
    """The bad paper of a right shape and a deed, or of two right shapes."""
    shape, other = pair
    return ("bad", shape.rows, other.rows if isinstance(other, Shape) else other)
