"""Drawings: how the upper part of a tree is rearranged, told by a first and a second picture."""

from mendbooks.base.forms import Scheme, mirrored_scheme
from mendbooks.base.pictures import HOLE, are_apart, spot_over
from mendbooks.books.lines import mirrored_line, parts_of, without_marks
from mendbooks.books.sides import found_by, picture_of
from mendbooks.errors import InvalidDrawing, InvalidOperation, InvalidScheme

MAX_DIFFERENCE = 12
KINDS = ("put", "cut", "mend", "top", "join")


class Drawing:
    """What a line tells over a scheme."""

    def __init__(self, scheme, line):
        if not isinstance(scheme, Scheme):
            raise InvalidScheme("a drawing is told over a scheme")
        sketch = _sketch_of(scheme, line)
        if sketch is None:
            raise InvalidDrawing("no line of a drawing over this scheme")
        kind, words, found, picture, marked, result = sketch
        self._scheme = scheme
        self._line = line
        self._kind = kind
        self._first = _first_of(kind, words)
        self._found = found
        self._opened = _opened_pairs(kind, found)
        self._picture = picture
        self._result = result
        self._hand = result[0] if marked == HOLE else marked
        self._is_odd = found.was is not None and found.was != result

    @property
    def scheme(self):
        """The scheme over which it is told."""
        return self._scheme

    @property
    def line(self):
        """Its line."""
        return self._line

    @property
    def kind(self):
        """One of KINDS."""
        return self._kind

    @property
    def place(self):
        """Where it is done."""
        return self._found.where

    @property
    def first(self):
        """The text of the first picture as it stands in the line, None for a join."""
        return self._first

    @property
    def second(self):
        """The text of the second picture, without marks."""
        return self._picture.text

    @property
    def result(self):
        """The spot of the second picture."""
        return self._result

    @property
    def hand(self):
        """What the next drawing is told of the result: a sort, or the picture of the marked names."""
        return self._hand

    @property
    def is_odd(self):
        """Whether it is a put, a cut or a mend, the result of which differs from what was there."""
        return self._is_odd

    @property
    def opened(self):
        """The names that it asks for, by their paths."""
        return {path: name for path, name in self._opened}

    @property
    def opened_pairs(self):
        """The pairs of a path and a name that it asks for, ascending."""
        return self._opened

    @property
    def compared(self):
        """The pictures by which it differs from others of its place."""
        return self._found.pictures

    @property
    def hole_paths(self):
        """The paths that lead to the holes of its first picture, also to those below the odd child."""
        return tuple([path for path, _ in self._found.ends])

    @property
    def picture(self):
        """The second picture."""
        return self._picture

    @property
    def eaten(self):
        """The number of names of the hand that it is told."""
        return self._found.told

    def mirrored(self, scheme):
        """The drawing over the mirrored scheme in which all stands in the opposite order."""
        if not isinstance(scheme, Scheme):
            raise InvalidScheme("a drawing is told over a scheme")
        if scheme != mirrored_scheme(self._scheme):
            raise InvalidOperation("a mirrored drawing needs the mirrored scheme")
        return Drawing(scheme, mirrored_line(self._line))

    def __len__(self):
        return len(self._picture.names)

    def __eq__(self, other):
        return isinstance(other, Drawing) and self.line == other.line and self.scheme == other.scheme

    def __str__(self):
        return str(self._line)


def clash(one, other):
    """Whether two drawings have one place in one scheme, and are not apart."""
    if not isinstance(one, Drawing) or not isinstance(other, Drawing):
        raise InvalidDrawing("only drawings clash")
    return one.place == other.place and one.scheme == other.scheme and not is_told_apart(one, other)


def is_told_apart(one, other):
    """Whether two drawings of one place, over one scheme, are apart."""
    return any([are_apart(left, right) for left, right in zip(one.compared, other.compared)])


def _sketch_of(scheme, line):
    """What a line tells: kind, words, what is found, the second picture, its marked names, result; or None."""
    parts = parts_of(line)
    if parts is None:
        return None
    kind, words, second = parts
    found = found_by(scheme, kind, words, MAX_DIFFERENCE)
    texts = without_marks(second)
    if found is None or texts is None:
        return None
    picture = picture_of(texts[0])
    result = None if picture is None else _result_of(scheme, kind, found, picture)
    if result is None or not _may_stand(scheme, kind, found, result, texts[1]):
        return None
    return kind, words, found, picture, texts[1], result


def _result_of(scheme, kind, found, picture):
    """The spot of a second picture, None if it does not hold over the holes of the first one."""
    spots = tuple([spot for _, spot in found.ends])
    if kind == "put":
        # Its children are empty trees, which stand at no level that the drawing could tell.
        spots = ((scheme.bare, 0), (scheme.bare, 0))
    return spot_over(scheme, picture, spots) if len(spots) == picture.holes else None


def _may_stand(scheme, kind, found, result, marked):
    """Whether this result and these marks can stand in a drawing of this kind."""
    if kind == "top" and result[0] not in scheme.tops:
        return False
    return marked == HOLE or kind == "join" or (found.was is not None and found.was != result)


def _first_of(kind, words):
    if kind == "join":
        return None
    return HOLE if kind == "put" else words[0]


def _opened_pairs(kind, found):
    """The pairs of a path and a name that a drawing asks for; what stands at a single top is known to it."""
    pairs = []
    for side, picture in enumerate(found.pictures):
        names = picture.names
        for path, name in zip(picture.paths(), names):
            if kind == "join":
                pairs.append(((side, *path), name))
            elif path != ():
                pairs.append((path, name))
    return tuple(pairs)
