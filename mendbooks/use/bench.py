"""Benches: books that are worked on."""

from mendbooks.base.words import is_count
from mendbooks.books.books import Book
from mendbooks.decide.least import is_good
from mendbooks.errors import InvalidBook, InvalidNumber, InvalidOperation, NothingToUndo, Refused, TooMany
from mendbooks.use.pledges import holds, is_among, is_pledge

MAX_PLEDGES = 10

# The kinds of deeds of which the news tell.
_TOLD = ("put", "cut")


class Standing:
    """A book, its pledges, and for which of the told kinds it is good. It never changes."""

    def __init__(self, book, pledges, goods):
        self.worked = book
        self.pledged = pledges
        self.goods = goods
        self.written = tuple([drawing.line for drawing in book])


class Trial:
    """A block behind which a bench is as it was before."""

    def __init__(self, worked):
        self.worked = worked
        self.story = None
        self.reached = None
        self.standing = None

    def __enter__(self):
        self.story = self.worked._story
        self.reached = self.worked._reached
        self.standing = self.worked._standing
        return self.worked

    def __exit__(self, kind, value, trace):
        worked = self.worked
        worked._story = self.story
        worked._reached = self.reached
        worked._standing = self.standing


class Bench:
    """A book that is worked on under pledges, with all its changes."""

    def __init__(self, book):
        if not isinstance(book, Book):
            raise InvalidBook("a book is worked on")
        self._standing = Standing(book, (), _goods_of(book))
        # All standings, also those that have been taken back and can be done again.
        self._story = (self._standing,)
        self._reached = 0

    @property
    def book(self):
        """The book."""
        return self._standing.worked

    @property
    def pledges(self):
        """The pledges, in the order of demands."""
        return self._standing.pledged

    def draw(self, line):
        """Adds a drawing, or puts another put in the place of the put; returns the news."""
        return self._rewrite(self._standing.worked.with_drawing(line))

    def erase(self, line):
        """Takes out the drawing with this line; returns the news."""
        return self._rewrite(self._standing.worked.without(line))

    def demand(self, pledge):
        """Adds a pledge, which has to hold; returns the news."""
        book = self._standing.worked
        pledges = self._standing.pledged
        if not is_pledge(book.scheme, pledge) or pledge in pledges:
            raise InvalidOperation("no pledge for this scheme, or one that is there")
        if len(pledges) == MAX_PLEDGES:
            raise TooMany(MAX_PLEDGES)
        if not holds(book, pledge):
            raise Refused(pledge)
        return self._change(Standing(book, (*pledges, pledge), self._standing.goods))

    def waive(self, pledge):
        """Takes out a pledge; returns the news."""
        book = self._standing.worked
        pledges = self._standing.pledged
        if not is_among(pledges, pledge):
            raise InvalidOperation("no pledge that is there")
        return self._change(Standing(book, tuple([other for other in pledges if other != pledge]),
                                     self._standing.goods))

    def undo(self, *, many=1):
        """Takes back so many changes; returns the news."""
        if not is_count(many):
            raise InvalidNumber(many)
        if many > self._reached:
            raise NothingToUndo(many)
        return self._reach(self._reached - many)

    def redo(self, *, many=1):
        """Does so many changes again that were taken back; returns the news."""
        if not is_count(many):
            raise InvalidNumber(many)
        if many >= len(self._story) - self._reached:
            raise NothingToUndo(many)
        return self._reach(self._reached + many)

    def trial(self):
        """For a `with` block, behind which the bench is as it was before."""
        return Trial(self)

    def during(self, call):
        """What a function returns that is called with the bench in such a block."""
        with self.trial() as same:
            return call(same)

    def twin(self):
        """An independent bench that is equal, with all changes."""
        made = Bench(self._standing.worked)
        made._standing = self._standing
        made._story = self._story
        made._reached = self._reached
        return made

    def __contains__(self, value):
        if isinstance(value, str):
            return value in self._standing.written
        return is_among(self._standing.pledged, value)

    def __iter__(self):
        return iter(self._standing.written)

    def __len__(self):
        return len(self._standing.written)

    def __eq__(self, other):
        return isinstance(other, Bench) and self.book == other.book and self.pledges == other.pledges

    def __str__(self):
        return f"bench with {len(self._standing.written)} drawings, {len(self._standing.pledged)} pledges"

    def _rewrite(self, book):
        """Takes another book, for which all pledges hold."""
        goods = _goods_of(book)
        for pledge in self._standing.pledged:
            if not holds(book, pledge):
                raise Refused(pledge)
        return self._change(Standing(book, self._standing.pledged, goods))

    def _change(self, standing):
        self._story = (*self._story[:self._reached + 1], standing)
        return self._reach(self._reached + 1)

    def _reach(self, reached):
        """Goes to another standing; returns the news."""
        before = self._standing.goods
        self._reached = reached
        self._standing = self._story[reached]
        return tuple([(kind, good) for kind, was, good in zip(_TOLD, before, self._standing.goods) if was != good])


def _goods_of(book):
    """Whether a book is good for each of the told kinds."""
    return tuple([is_good(book, kind) for kind in _TOLD])
