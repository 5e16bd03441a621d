"""Books: a scheme and its drawings."""

from mendbooks.base.forms import Scheme, mirrored_scheme, renamed_scheme
from mendbooks.base.words import is_flat, is_indices, is_name
from mendbooks.books.drawings import KINDS, Drawing, is_told_apart
from mendbooks.books.lines import renamed_line
from mendbooks.errors import InvalidBook, InvalidDrawing, InvalidOperation, InvalidScheme, ParseError, UnknownName

MAX_DRAWINGS = 150


class Book:
    """The drawings by which the trees over a scheme are mended."""

    def __init__(self, scheme, drawings):
        if not isinstance(scheme, Scheme):
            raise InvalidScheme("a book has a scheme")
        if not _is_book(scheme, drawings):
            raise InvalidBook("these drawings make no book")
        by_place = {}
        ordered = sorted(drawings, key=_rank_of_drawing)
        for drawing in ordered:
            by_place.setdefault(drawing.place, []).append(drawing)
        self._scheme = scheme
        self._drawings = tuple(ordered)
        self._by_line = {drawing.line: drawing for drawing in ordered}
        self._by_place = {place: tuple(by_place[place]) for place in sorted(by_place)}

    @classmethod
    def from_lines(cls, *lines):
        """The book that has these lines of a scheme and of drawings, in any order."""
        drawn = [index for index, line in enumerate(lines) if _begins_with_kind(line)]
        others = [index for index, line in enumerate(lines) if not _begins_with_kind(line)]
        told = [lines[index] for index in others]
        try:
            scheme = Scheme.from_lines(*told)
        except ParseError as error:
            raise ParseError(others[error.number]) from None
        return cls(scheme, tuple([_read_drawing(scheme, lines[index], index) for index in drawn]))

    @property
    def scheme(self):
        """The scheme."""
        return self._scheme

    @property
    def drawings(self):
        """The drawings, in the order of KINDS, those of one kind ascending by line."""
        return self._drawings

    @property
    def put_drawing(self):
        """The one put."""
        return self._drawings[0]

    @property
    def lines(self):
        """The lines of the scheme, then those of the drawings."""
        return (*self._scheme.lines, *self._by_line)

    @property
    def places(self):
        """The different places of the drawings, ascending."""
        return tuple(self._by_place)

    def at(self, place):
        """The drawings of a place, none for any other value."""
        return self._by_place.get(place, ()) if is_flat(place) else ()

    def with_drawing(self, line):
        """The book with one more drawing, or with this put instead of its own one."""
        drawing = Drawing(self._scheme, line)
        if line in self._by_line:
            raise InvalidBook("this drawing is there")
        others = [other for other in self._drawings if other.kind != "put" or drawing.kind != "put"]
        return Book(self._scheme, (*others, drawing))

    def without(self, line):
        """The book without the drawing that has this line."""
        gone = self[line]
        if gone.kind == "put":
            raise InvalidBook("a book has a put")
        return Book(self._scheme, tuple([drawing for drawing in self._drawings if drawing.line != gone.line]))

    def __getitem__(self, line):
        if not isinstance(line, str) or line not in self._by_line:
            raise UnknownName(line)
        return self._by_line[line]

    def __contains__(self, value):
        if isinstance(value, Drawing):
            return value.line in self._by_line and value.scheme == self._scheme
        return isinstance(value, str) and value in self._by_line

    def __iter__(self):
        return iter(self._drawings)

    def __len__(self):
        return len(self._drawings)

    def __eq__(self, other):
        return isinstance(other, Book) and self.lines == other.lines

    def __str__(self):
        return f"book of {len(self._scheme.names)} forms, {len(self._drawings)} drawings"


def mirrored_book(book):
    """The book over the mirrored scheme with the mirrored drawings."""
    if not isinstance(book, Book):
        raise InvalidBook("only a book is mirrored")
    scheme = mirrored_scheme(book.scheme)
    return Book(scheme, tuple([drawing.mirrored(scheme) for drawing in book.drawings]))


def renamed_book(book, sorts, forms):
    """The book in which each sort and each form has the name that the two dicts tell."""
    if not isinstance(book, Book):
        raise InvalidBook("only a book is renamed")
    scheme = renamed_scheme(book.scheme, sorts, forms)
    lines = [renamed_line(drawing.line, sorts, forms) for drawing in book.drawings]
    return Book(scheme, tuple([Drawing(scheme, line) for line in lines]))


def choice(book, place, opened):
    """The drawing of a place that fits where these names stand at these paths, None if none does."""
    if not isinstance(book, Book):
        raise InvalidBook("only from a book is a drawing chosen")
    if not _is_opened(opened):
        raise InvalidOperation("what stands there is a dict from paths to names or None")
    for drawing in book.at(place):
        if _fits(drawing, opened):
            return drawing
    return None


def _fits(drawing, opened):
    return all([path in opened and opened[path] == name for path, name in drawing.opened_pairs])


def _is_opened(value):
    if not isinstance(value, dict) or not all([is_indices(path) for path in value]):
        return False
    return all([name is None or is_name(name) for name in value.values()])


def _rank_of_drawing(drawing):
    """By which the drawings of a book are ordered."""
    return (KINDS.index(drawing.kind), drawing.line)


def _is_book(scheme, drawings):
    if not isinstance(drawings, tuple) or not all([isinstance(drawing, Drawing) for drawing in drawings]):
        return False
    if len(drawings) > MAX_DRAWINGS or not all([drawing.scheme == scheme for drawing in drawings]):
        return False
    if len([drawing for drawing in drawings if drawing.kind == "put"]) != 1:
        return False
    earlier = {}
    for drawing in drawings:
        neighbours = earlier.setdefault(drawing.place, [])
        if not all([is_told_apart(drawing, other) for other in neighbours]):
            return False
        neighbours.append(drawing)
    return True


def _begins_with_kind(line):
    return isinstance(line, str) and line.partition(" ")[0] in KINDS and " " in line


def _read_drawing(scheme, line, index):
    try:
        return Drawing(scheme, line)
    except InvalidDrawing:
        raise ParseError(index) from None
