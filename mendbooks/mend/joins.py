"""Joins and splits of right shapes."""

from mendbooks.base.words import is_index
from mendbooks.books.books import Book
from mendbooks.errors import InvalidBook, InvalidNumber, InvalidShape, NoMend
from mendbooks.mend.seams import Seams
from mendbooks.trees.forest import Forest
from mendbooks.trees.shapes import is_over, shape_of


def join_shapes(book, one, other):
    """The right shape with the keys of both right shapes, and one more between them."""
    _check_sides(book, one, other)
    return _joined(book, one, other)[0]


def join_steps(book, one, other):
    """The pairs of a path and a line of the drawings of a join, in their order."""
    _check_sides(book, one, other)
    return tuple([(path, drawing.line) for path, drawing in _joined(book, one, other)[1].done])


def raise_shape(book, shape):
    """The right shape to which a sound shape is raised, a right one itself."""
    _check_book(book)
    if not is_over(book.scheme, shape) or shape.spot is None:
        raise InvalidShape("only a sound shape over the scheme of the book is raised")
    forest = Forest()
    top = Seams(book, forest).raised(forest.top_of(shape.rows))
    return shape_of(book.scheme, forest, top)


def split_shape(book, shape, number):
    """The pair of the right shapes below and above the key with this number."""
    _check_book(book)
    _check_right(book, shape)
    if not is_index(number, shape.size):
        raise InvalidNumber(number)
    path, at = shape.key_at(number)
    forest = Forest()
    left, right = Seams(book, forest).split(forest.top_of(shape.rows), path, at)
    return shape_of(book.scheme, forest, left), shape_of(book.scheme, forest, right)


def failing_join(book, one, other):
    """The kind of the join of two right shapes, and the place with which it fails, None if it does not."""
    kind = "left" if one.spot[1] >= other.spot[1] else "right"
    forest = Forest()
    mending = Seams(book, forest).tried(forest.top_of(one.rows), forest.top_of(other.rows), None)
    return kind, mending.failing


def _check_book(book):
    if not isinstance(book, Book):
        raise InvalidBook("trees are joined and split by a book")


def _check_right(book, shape):
    if not is_over(book.scheme, shape) or not shape.is_right:
        raise InvalidShape("only right shapes over the scheme of the book are joined and split")


def _check_sides(book, one, other):
    _check_book(book)
    _check_right(book, one)
    _check_right(book, other)


def _joined(book, one, other):
    """The shape that a join leaves, and its mending."""
    forest = Forest()
    mending = Seams(book, forest).tried(forest.top_of(one.rows), forest.top_of(other.rows), None)
    if mending.failing is not None:
        raise NoMend(mending.failing)
    return shape_of(book.scheme, forest, mending.left_top()), mending
