"""Deeds: puts and cuts in right trees, and how the trees are mended."""

from mendbooks.base.words import is_index
from mendbooks.books.books import Book
from mendbooks.errors import InvalidBook, InvalidNumber, InvalidOperation, InvalidShape, NoMend
from mendbooks.mend.mending import Mending
from mendbooks.trees.forest import Forest
from mendbooks.trees.shapes import Shape, is_over, shape_of


def is_deed(shape, value):
    """Whether the value is a deed in the shape, right or not."""
    if not isinstance(shape, Shape):
        raise InvalidShape("only in a shape are deeds done")
    if not isinstance(value, tuple) or len(value) != 2 or not is_index(value[1], shape.size + 1):
        return False
    return value[0] == "put" or (value[0] == "cut" and shape.size > 0)


def put(book, shape, gap):
    """The right shape with one key more, at a gap."""
    _check_gap(book, shape, gap)
    return _shape_behind(book, shape, ("put", gap))


def cut(book, shape, gap):
    """The right shape with one key less, at a gap."""
    _check_gap(book, shape, gap)
    if not shape:
        raise InvalidOperation("nothing can be cut from the empty shape")
    return _shape_behind(book, shape, ("cut", gap))


def steps(book, shape, deed):
    """The pairs of a path and a line of the drawings that a deed uses, in their order."""
    _check_deed(book, shape, deed)
    return tuple([(path, drawing.line) for path, drawing in _mended(book, shape, deed)[0].done])


def failing_place(book, shape, deed):
    """The place with which a deed fails, None if it does not."""
    _check_deed(book, shape, deed)
    return _tried(book, shape, deed)[0].failing


def fresh_nodes(book, shape, deed):
    """How many nodes of the new tree are made anew."""
    _check_deed(book, shape, deed)
    return _mended(book, shape, deed)[0].fresh


def _check_shape(book, shape):
    if not isinstance(book, Book):
        raise InvalidBook("trees are mended by a book")
    if not is_over(book.scheme, shape) or not shape.is_right:
        raise InvalidShape("deeds are done in right shapes over the scheme of the book")


def _check_gap(book, shape, gap):
    _check_shape(book, shape)
    if not is_index(gap, shape.size + 1):
        raise InvalidNumber(gap)


def _check_deed(book, shape, deed):
    _check_shape(book, shape)
    if not is_deed(shape, deed):
        raise InvalidOperation("no deed in this shape")


def _tried(book, shape, deed):
    """The mending of a deed, also of one that fails, and the forest in which it is done."""
    kind, gap = deed
    forest = Forest()
    mending = Mending(book, forest, forest.top_of(shape.rows), shape.path_to(gap))
    if kind == "put":
        mending.put()
    else:
        mending.cut()
    return mending, forest


def _mended(book, shape, deed):
    mending, forest = _tried(book, shape, deed)
    if mending.failing is not None:
        raise NoMend(mending.failing)
    return mending, forest


def _shape_behind(book, shape, deed):
    mending, forest = _mended(book, shape, deed)
    return shape_of(book.scheme, forest, mending.left_top())
