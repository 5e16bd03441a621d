"""Where deeds of a kind begin in all trees, and how they go on from there."""

from mendbooks.books.sides import MAX_JOINED
from mendbooks.decide.cases import Site
from mendbooks.decide.rows import is_row, is_start_of_join, node_at, whole_row

# Of which children the rows of a kind tell; joins go along last or first children only.
_INDICES = {"put": None, "cut": None, "left": -1, "right": 0}


class Course:
    """The starts of a kind of deeds, and the rows to which drawings lead on.

    An oddity is (sort, rank, apart, difference, hand): where a node of a sort and a rank was, an odd drawing has been
    done. Only children with steps above `apart` can stand there; it is -1 if all can. Ranks need not be bases.
    """

    def __init__(self, book, existence, kind):
        self._book = book
        self._existence = existence
        self._kind = kind
        self._index = _INDICES[kind]
        self._useful = existence.useful_from(self._index)
        self._over = {}

    @property
    def book(self):
        """The book."""
        return self._book

    @property
    def kind(self):
        """The kind of deeds."""
        return self._kind

    def all_starts(self):
        """The starts, ascending."""
        if self._kind == "put":
            return (("put",),)
        if self._kind == "cut":
            return tuple(sorted([("cut", *node) for node in self.nodes_over(self._book.scheme.bare, 0, -1)]))
        found = [start for rank in range(self._existence.many_bases) for start in self.joins_at(rank)]
        return tuple(sorted(found))

    def joins_at(self, rank):
        """The starts of joins with places of this rank."""
        return [start for apart in range(MAX_JOINED + 1) for start in self._joins_apart(rank, apart)]

    def is_row(self, value):
        """Whether the value is a row, useful or not, of whatever children it tells."""
        return is_row(self._book.scheme, self._existence, value)

    def site(self, row):
        """The site of a row or a start."""
        return Site(self._book, self._existence, row)

    def leads(self, row):
        """The ascending tuples of the rows to which the drawings lead on that can fit at a row or a start, by lines."""
        return {drawing.line: self._rows_behind(drawing, row) for drawing in self.site(row).fitting()}

    def rows_after(self, row):
        """The list of all rows to which the drawings lead on that can fit at a row or a start."""
        return [other for rows in self.leads(row).values() for other in rows]

    def oddity_behind(self, drawing, row):
        """The oddity to which a drawing leads at a row or a start, None if it is not odd there."""
        sort, rank, apart = self.spot_of(row)
        level = 0
        if drawing.kind == "join":
            # The right side stands as much below the left one as the difference tells.
            level = 0 if self._kind == "left" else row[3]
        if drawing.kind == "top" or drawing.result == (sort, level):
            return None
        return (sort, rank, apart, drawing.result[1] - level, drawing.hand)

    def spot_of(self, row):
        """The sort, the rank and what is apart where a drawing is done at a row or a start."""
        if row == ("put",) or row[0] == "":
            return self._book.scheme.bare, 0, -1
        if is_start_of_join(row):
            return row[1] if self._kind == "left" else row[2], row[4], abs(row[3])
        name, _, rank = node_at(row)
        return self._book.scheme[name].sort_name, rank, -1

    def rows_over(self, oddity):
        """The ascending tuple of the rows above an oddity, with their ranks taken to their bases."""
        if oddity not in self._over:
            sort, rank, apart, difference, hand = oddity
            rows = [(name, index, difference, hand, self._existence.base_of(above))
                    for name, index, above in self.nodes_over(sort, rank, apart)]
            if self.can_be_whole(sort, apart):
                rows.append(whole_row(hand))
            self._over[oddity] = tuple(sorted(rows))
        return self._over[oddity]

    def nodes_over(self, sort, rank, apart):
        """The useful nodes, as (name, index, rank), directly above a child with this sort and rank."""
        nodes = self._existence.nodes_above(sort, rank, self._index, self._useful)
        return [node for node in nodes if node[2] - rank > apart]

    def can_be_whole(self, sort, apart):
        """Whether what has this sort can be the whole tree."""
        if sort not in self._book.scheme.tops:
            return False
        return apart < 0 or (apart == 0 and self._kind == "left")

    def _joins_apart(self, rank, apart):
        """The starts of joins with a place of this rank and the difference, told without its sign."""
        places = [sort for sort in self._existence.sorts_at(rank) if self._can_lie(sort, rank, apart)]
        others = [sort for sort in self._existence.sorts_at(rank + apart) if sort in self._book.scheme.tops]
        if self._kind == "left":
            return [("join", sort, other, apart, rank) for sort in places for other in others]
        return [("join", other, sort, -apart, rank) for sort in places for other in others]

    def _can_lie(self, sort, rank, apart):
        """Whether the place of a join can have this sort."""
        return self.can_be_whole(sort, apart) or bool(self.nodes_over(sort, rank, apart))

    def _rows_behind(self, drawing, row):
        oddity = self.oddity_behind(drawing, row)
        if oddity is not None:
            return self.rows_over(oddity)
        return (whole_row(drawing.hand),) if drawing.kind == "put" else ()
