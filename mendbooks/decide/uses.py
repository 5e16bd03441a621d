"""Which drawings deeds use, and how many of them."""

from mendbooks.base.words import is_index
from mendbooks.books.books import Book
from mendbooks.decide.chase import Chase, Using
from mendbooks.decide.rows import place_of
from mendbooks.decide.tables import Table
from mendbooks.decide.ways import realized
from mendbooks.errors import InvalidBook, InvalidNumber, InvalidOperation

_MAX_MANY = 100


def most_drawings(book, kind):
    """The greatest number of drawings that a deed of a kind uses, None if there is none; 0 without such deeds."""
    table = _table_of(book, kind)
    _check_good(table)
    return _most_from(table)


def long_deed(book, kind, many):
    """A right shape and a deed of a kind that is done and uses at least so many drawings."""
    _check_kind(book, kind)
    if not is_index(many, _MAX_MANY + 1):
        raise InvalidNumber(many)
    table = Table(book, kind)
    _check_good(table)
    way = _way_of(table.course, max(many, 1))
    if way is None:
        raise InvalidOperation("no deed uses so many drawings")
    return realized(table.course, way)


def used(book, kind):
    """The ascending lines of the drawings that some deed of a kind uses."""
    return _lines_used(_table_of(book, kind))


def least_use(book, kind, line):
    """A right shape with as few keys as possible and a deed that uses the drawing with this line; None without one."""
    _check_kind(book, kind)
    told = book[line].line
    table = Table(book, kind)
    if told not in _lines_used(table):
        return None
    chase = Chase(table.course, Using(told))
    pieces = chase.cheapest()
    return chase.grown(pieces)


def spared(book):
    """The book without all drawings but joins that neither puts nor cuts use."""
    lines = [*used(book, "put"), *used(book, "cut")]
    return Book(book.scheme, tuple([drawing for drawing in book.drawings
                                    if drawing.kind == "join" or drawing.line in lines]))


def lacking(book, kind):
    """The ascending places of the starts and rows that are not covered."""
    table = _table_of(book, kind)
    return tuple(sorted(set([place_of(row) for row in (*table.open_starts, *table.open_rows)])))


def _check_kind(book, kind):
    if not isinstance(book, Book):
        raise InvalidBook("drawings are those of a book")
    if kind not in ("put", "cut"):
        raise InvalidOperation("only puts and cuts are asked for here")


def _table_of(book, kind):
    _check_kind(book, kind)
    return Table(book, kind)


def _check_good(table):
    if not table.is_good:
        raise InvalidOperation("the book is not good for these deeds")


def _lines_used(table):
    lines = [line for row in (*table.starts, *table.rows) for line in table.leads(row)]
    return tuple(sorted(set(lines)))


def _own_drawings(course, row):
    """How many drawings are done at a covered row or start: none for a whole tree that is right, otherwise one."""
    return 1 if row[0] != "" or course.site(row).fitting() else 0


def _most_from(table):
    """The greatest number of drawings from some start on; None if a deed can come to a row once more."""
    after = {row: table.course.rows_after(row) for row in (*table.starts, *table.rows)}
    most = {}
    entered = {}
    waiting = list(table.starts)
    while waiting:
        row = waiting[-1]
        if row in most:
            waiting.pop()
        elif row in entered:
            waiting.pop()
            most[row] = _own_drawings(table.course, row) + max([most[other] for other in after[row]], default=0)
        else:
            # What has been entered and not left stands above this row on its way from a start.
            entered[row] = True
            if any([other in entered and other not in most for other in after[row]]):
                return None
            waiting.extend([other for other in after[row] if other not in most])
    return max([most[start] for start in table.starts], default=0)


def _way_of(course, many):
    """A way of so many drawings; None if there is none. It climbs as few ranks as possible."""
    layers = [{start: (course.spot_of(start)[1], None) for start in course.all_starts()}]
    while len(layers) < many:
        layers.append(_next_layer(course, layers[-1]))
    ends = [(layers[-1][row][0], row) for row in layers[-1] if _own_drawings(course, row) > 0]
    if not ends:
        return None
    way = [min(ends)[1]]
    for layer in layers[:0:-1]:
        way.append(layer[way[-1]][1])
    return tuple(way[::-1])


def _next_layer(course, layer):
    """For each row that comes next, its least rank, and the row ahead of it."""
    found = {}
    for row, (rank, _) in layer.items():
        for other in course.rows_after(row):
            step = 0 if other[0] == "" else course.book.scheme[other[0]][other[1]][1]
            if other not in found or rank + step < found[other][0]:
                found[other] = (rank + step, row)
    return found
