"""Where deeds of a kind begin in all trees, and how they go on from there."""

from mendbooks.books.sides import MAX_JOINED
from mendbooks.decide.cases import Site

# Of which children the rows of a kind tell; joins go along last or first children only.
_INDICES = {"put": None, "cut": None, "left": -1, "right": 0}


class Course:
    """The starts of a kind of deeds, and the rows to which drawings lead on."""

    def __init__(self, book, existence, kind):
        self._book = book
        self._existence = existence
        self._kind = kind
        self._index = _INDICES[kind]
        self._useful = existence.useful_from(self._index)

    def all_starts(self):
        """The starts, ascending."""
        if self._kind == "put":
            return (("put",),)
        if self._kind == "cut":
            return tuple(sorted([("cut", *node) for node in self._nodes_above(self._book.scheme.bare, 0)]))
        found = [start for rank in range(self._existence.many_bases) for difference in range(MAX_JOINED + 1)
                 for start in self._joins_at(rank, difference)]
        return tuple(sorted(found))

    def site(self, row):
        """The site of a row or a start."""
        return Site(self._book, self._existence, row)

    def leads(self, row):
        """The ascending tuples of the rows to which the drawings lead on that can fit at a row or a start, by lines."""
        return {drawing.line: self._rows_behind(drawing, row) for drawing in self.site(row).fitting()}

    def _nodes_above(self, sort, rank):
        return self._existence.nodes_above(sort, rank, self._index, self._useful)

    def _joins_at(self, rank, apart):
        """The starts of joins with a place of this rank and the difference, told without its sign."""
        places = [sort for sort in self._existence.sorts_at(rank) if self._can_lie(sort, rank, apart)]
        others = [sort for sort in self._existence.sorts_at(rank + apart) if sort in self._book.scheme.tops]
        if self._kind == "left":
            return [("join", sort, other, apart, rank) for sort in places for other in others]
        return [("join", other, sort, -apart, rank) for sort in places for other in others]

    def _can_lie(self, sort, rank, apart):
        """Whether the place of a join can have this sort."""
        if self._can_be_whole(sort, apart):
            return True
        return any([above - rank > apart for _, _, above in self._nodes_above(sort, rank)])

    def _can_be_whole(self, sort, apart):
        """Whether the place of a join can be the whole tree."""
        return self._kind == "left" and apart == 0 and sort in self._book.scheme.tops

    def _rows_behind(self, drawing, row):
        scheme = self._book.scheme
        if drawing.kind == "top":
            return ()
        if drawing.kind == "join":
            return self._rows_behind_join(drawing, row)
        if drawing.kind == "put":
            rows = self._rows_above(drawing, scheme.bare, 0, -1) if drawing.is_odd else []
            return tuple(sorted([_whole_row(drawing), *rows]))
        if not drawing.is_odd:
            return ()
        sort = scheme[drawing.place[1]].sort_name
        whole = [_whole_row(drawing)] if sort in scheme.tops else []
        return tuple(sorted([*whole, *self._rows_above(drawing, sort, row[-1], -1)]))

    def _rows_behind_join(self, drawing, row):
        _, left, right, difference, rank = row
        was = (left, 0) if self._kind == "left" else (right, difference)
        if drawing.result == was:
            return ()
        apart = abs(difference)
        whole = [_whole_row(drawing)] if self._can_be_whole(was[0], apart) else []
        return tuple(sorted([*whole, *self._rows_above(drawing, was[0], rank, apart, was[1])]))

    def _rows_above(self, drawing, sort, rank, apart, level=0):
        """The rows to which an odd drawing leads on, under steps above a number, from what had a sort and a level."""
        return [(name, index, drawing.result[1] - level, drawing.hand, self._existence.base_of(above))
                for name, index, above in self._nodes_above(sort, rank) if above - rank > apart]


def _whole_row(drawing):
    """The row for a whole tree that a drawing leaves."""
    return ("", 0, 0, drawing.hand, 0)
