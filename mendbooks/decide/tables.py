"""Tables: all that can happen while trees are mended, in finitely many rows."""

from mendbooks.base.words import is_flat
from mendbooks.books.books import Book
from mendbooks.decide.cases import Site
from mendbooks.decide.course import Course
from mendbooks.decide.rows import is_row_or_start
from mendbooks.errors import InvalidBook, InvalidOperation, TooMany
from mendbooks.ranks.ranks import existence_of

DEEDS = ("put", "cut", "left", "right")
MAX_TABLE = 20000


class Table:
    """The rows of a kind of deeds, and those of them that are not covered."""

    def __init__(self, book, kind):
        if not isinstance(book, Book):
            raise InvalidBook("a table is made for a book")
        if kind not in DEEDS:
            raise InvalidOperation("no kind of deeds")
        self._book = book
        self._kind = kind
        self._course = Course(book, existence_of(book.scheme), kind)
        self._starts = self._course.all_starts()
        # For each row the start or the row ahead of it on a shortest way.
        self._before = _reached(self._course, self._starts)
        self._rows = tuple(sorted(self._before))
        self._open_starts = tuple([start for start in self._starts if not self._course.site(start).is_covered()])
        self._open_rows = tuple([row for row in self._rows if not self._course.site(row).is_covered()])

    @property
    def course(self):
        """Where deeds of the kind begin, and how they go on."""
        return self._course

    @property
    def book(self):
        """The book."""
        return self._book

    @property
    def kind(self):
        """The kind of deeds."""
        return self._kind

    @property
    def rows(self):
        """The rows, ascending."""
        return self._rows

    @property
    def starts(self):
        """The starts, ascending."""
        return self._starts

    @property
    def open_rows(self):
        """The rows that are not covered, ascending."""
        return self._open_rows

    @property
    def open_starts(self):
        """The starts that are not covered, ascending."""
        return self._open_starts

    @property
    def is_good(self):
        """Whether all starts and all rows are covered."""
        return not self._open_starts and not self._open_rows

    def leads(self, row):
        """A dict from the lines of the drawings that can fit at a row or a start to the rows to which they lead on."""
        if row not in self and not (is_flat(row) and row in self._starts):
            raise InvalidOperation("no row and no start of this table")
        return self._course.leads(row)

    def way(self, row):
        """A shortest tuple of a start and rows up to this one, each of which leads on to the next one."""
        if row not in self:
            raise InvalidOperation("no row of this table")
        way = [row]
        while way[-1] in self._before:
            way.append(self._before[way[-1]])
        return tuple(way[::-1])

    def __contains__(self, value):
        return is_flat(value) and value in self._before

    def __iter__(self):
        return iter(self._rows)

    def __len__(self):
        return len(self._rows)

    def __eq__(self, other):
        return isinstance(other, Table) and self.kind == other.kind and self.book == other.book

    def __str__(self):
        return f"table of {len(self._rows)} rows, {len(self._open_rows)} open"


def beside(book, row):
    """What can stand at a row or a start so that no drawing fits, None if it is covered."""
    return _site_of(book, row).open_case()


def is_beside(book, row, value):
    """Whether the value is what can stand at a row or a start so that no drawing fits."""
    return _site_of(book, row).is_case(value)


def _reached(course, starts):
    """A dict from all rows to the starts or rows ahead of them on shortest ways."""
    before = {}
    waiting = list(starts)
    at = 0
    while at < len(waiting):
        row = waiting[at]
        at += 1
        for rows in course.leads(row).values():
            for other in rows:
                if other not in before:
                    before[other] = row
                    waiting.append(other)
        if len(before) > MAX_TABLE:
            raise TooMany(MAX_TABLE)
    return before


def _site_of(book, row):
    if not isinstance(book, Book):
        raise InvalidBook("rows are those of a book")
    existence = existence_of(book.scheme)
    if not is_row_or_start(book.scheme, existence, row):
        raise InvalidOperation("neither a row nor a start")
    return Site(book, existence, row)
