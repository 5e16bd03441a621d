"""Indexes: right trees with keys."""

from mendbooks.base.words import is_count, is_index, is_integer
from mendbooks.books.books import Book
from mendbooks.errors import AbsentKey, InvalidBook, InvalidNumber, InvalidOperation, InvalidShape, NothingToUndo
from mendbooks.trees.shapes import is_over, shape_with
from mendbooks.use.changing import cut_from, put_into
from mendbooks.use.grove import are_alike, height_of, keys_of, knots_of, planted, rows_of
from mendbooks.use.merging import merged


class Version:
    """The top of a tree, and the version of which it was made by one put or cut, None if there is none."""

    def __init__(self, top, before):
        self.top = top
        self.before = before


class Index:
    """A right tree with ascending integers as keys."""

    def __init__(self, book, content=()):
        if not isinstance(book, Book):
            raise InvalidBook("an index is mended by a book")
        if not _is_integers(content) or len(set(content)) != len(content):
            raise InvalidOperation("the content of an index is a tuple of integers, each of them once")
        version = Version(None, None)
        for key in content:
            version = Version(put_into(book, version.top, key), version)
        self._book = book
        self._version = version
        self._content = keys_of(version.top)

    @classmethod
    def from_shape(cls, book, shape, content):
        """The index with this right shape and an ascending tuple of as many integers."""
        made = cls(book)
        if not is_over(book.scheme, shape) or not shape.is_right:
            raise InvalidShape("an index has a right shape over the scheme of its book")
        if not _is_integers(content) or len(content) != shape.size or list(content) != sorted(set(content)):
            raise InvalidOperation("the keys are ascending, as many as the shape has")
        made._version = Version(planted(shape.rows, content), None)
        made._content = content
        return made

    @property
    def book(self):
        """The book."""
        return self._book

    @property
    def shape(self):
        """The shape of the tree."""
        return shape_with(self._book.scheme, rows_of(self._version.top))

    @property
    def content(self):
        """The keys, ascending."""
        return self._content

    def less(self, key):
        """The number of keys that are less."""
        _check_key(key)
        return _many_below(self._content, key)

    def under(self, key):
        """The greatest key that is less, None if there is none."""
        _check_key(key)
        many = _many_below(self._content, key)
        return self._content[many - 1] if many > 0 else None

    def over(self, key):
        """The least key that is greater, None if there is none."""
        _check_key(key)
        many = _many_below(self._content, key + 1)
        return self._content[many] if many < len(self._content) else None

    def between(self, low, high):
        """The keys that are at least `low` and less than `high`, ascending; None sets no bound."""
        for bound in (low, high):
            if bound is not None and not is_integer(bound):
                raise InvalidOperation("a bound is an integer or None")
        begin = 0 if low is None else _many_below(self._content, low)
        end = len(self._content) if high is None else _many_below(self._content, high)
        for key in self._content[begin:end]:
            yield key

    def with_key(self, key):
        """The index with one more key, this one if it has the key."""
        _check_key(key)
        if key in self:
            return self
        return _made(self._book, Version(put_into(self._book, self._version.top, key), self._version))

    def without_key(self, key):
        """The index without one of its keys."""
        _check_key(key)
        if key not in self:
            raise AbsentKey(key)
        return _made(self._book, Version(cut_from(self._book, self._version.top, key), self._version))

    def united(self, other):
        """The index of the keys in one or both."""
        return self._merged(other, True)

    def lessened(self, other):
        """The index of the keys in this one alone."""
        return self._merged(other, False)

    def shared(self, other):
        """The number of nodes that are nodes of both."""
        if not isinstance(other, Index):
            raise InvalidOperation("nodes are shared with an index")
        knots = {knot: True for knot in knots_of(self._version.top)}
        return len([knot for knot in knots_of(other._version.top) if knot in knots])

    def elder(self, *, many=1):
        """The index of which this one was made by so many puts and cuts of keys."""
        if not is_count(many):
            raise InvalidNumber(many)
        version = self._version
        for _ in range(many):
            version = version.before
            if version is None:
                raise NothingToUndo(many)
        return _made(self._book, version)

    def __contains__(self, value):
        if not is_integer(value):
            return False
        many = _many_below(self._content, value)
        return many < len(self._content) and self._content[many] == value

    def __getitem__(self, number):
        if not is_index(number, len(self._content)):
            raise InvalidNumber(number)
        return self._content[number]

    def __iter__(self):
        return iter(self._content)

    def __len__(self):
        return len(self._content)

    def __eq__(self, other):
        return (isinstance(other, Index) and self.content == other.content and self.book == other.book
                and are_alike(self._version.top, other._version.top))

    def __str__(self):
        return f"index of {len(self._content)} keys, height {height_of(self._version.top)}"

    def _merged(self, other, is_union):
        if not isinstance(other, Index) or other.book != self._book:
            raise InvalidOperation("only indexes with equal books are made one")
        return _made(self._book, Version(merged(self._book, self._version.top, other._version.top, is_union), None))


def _made(book, version):
    """The index with the tree of a version."""
    made = Index(book)
    made._version = version
    made._content = keys_of(version.top)
    return made


def _is_integers(value):
    return isinstance(value, tuple) and all([is_integer(key) for key in value])


def _check_key(key):
    if not is_integer(key):
        raise InvalidOperation("a key is an integer")


def _many_below(keys, bound):
    """How many ascending keys are less than a bound."""
    low = 0
    high = len(keys)
    while low < high:
        middle = (low + high) // 2
        if keys[middle] < bound:
            low = middle + 1
        else:
            high = middle
    return low
