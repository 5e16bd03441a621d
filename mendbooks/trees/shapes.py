"""Shapes: trees over a scheme, without keys."""

from mendbooks.base.forms import Scheme, mirrored_scheme
from mendbooks.base.words import is_index
from mendbooks.errors import InvalidNumber, InvalidScheme, InvalidShape, TooMany, UnknownPath
from mendbooks.trees.forest import Forest, is_rows, plain_rows_of

MAX_ROWS = 4000


class Shape:
    """A tree, sound or not, in which equal subtrees are kept once."""

    def __init__(self, scheme, rows):
        if not isinstance(scheme, Scheme):
            raise InvalidScheme("a shape is a tree over a scheme")
        if not is_rows(scheme, rows, MAX_ROWS):
            raise InvalidShape("no rows of a tree over this scheme")
        self._scheme = scheme
        self._rows = plain_rows_of(rows)
        self._gaps = _gaps_of(self._rows)
        self._heights = _heights_of(self._rows)
        self._spots = _spots_of(scheme, self._rows)

    @classmethod
    def node(cls, scheme, name, parts):
        """The node with this name and a tuple of shapes as its children."""
        if not isinstance(scheme, Scheme):
            raise InvalidScheme("a shape is a tree over a scheme")
        many = len(scheme[name])
        if not isinstance(parts, tuple) or len(parts) != many or not all([is_over(scheme, part) for part in parts]):
            raise InvalidShape("a node has as many shapes as its form tells")
        forest = Forest()
        children = [forest.top_of(part.rows) for part in parts]
        top = forest.row_of(name, tuple(children))
        return cls(scheme, _counted(forest.plain_rows(top)))

    @property
    def scheme(self):
        """The scheme."""
        return self._scheme

    @property
    def rows(self):
        """Its plain rows."""
        return self._rows

    @property
    def size(self):
        """The number of its keys."""
        return self._gaps[-1] - 1 if self._rows else 0

    @property
    def height(self):
        """The greatest number of nodes on a way from its top to a gap."""
        return self._heights[-1] if self._rows else 0

    @property
    def spot(self):
        """The pair of its sort and its rank, None if it is not sound."""
        return self._spots[-1] if self._rows else (self._scheme.bare, 0)

    @property
    def is_right(self):
        """Whether it is sound and has a top sort."""
        return self.spot is not None and self.spot[0] in self._scheme.tops

    @property
    def fault(self):
        """The index of the first row that is not sound, the number of rows if all are; None for a right shape."""
        if None in self._spots:
            return self._spots.index(None)
        return None if self.is_right else len(self._rows)

    def path_to(self, gap):
        """The path to the gap with this number."""
        if not is_index(gap, self.size + 1):
            raise InvalidNumber(gap)
        path = []
        row = len(self._rows) - 1 if self._rows else None
        while row is not None:
            children = self._rows[row][1]
            index = 0
            while gap >= self._gaps_below(children[index]):
                gap = gap - self._gaps_below(children[index])
                index = index + 1
            path.append(index)
            row = children[index]
        return tuple(path)

    def gap_at(self, path):
        """The number of the gap to which a path leads that is there."""
        gap = 0
        row = len(self._rows) - 1
        for index in path:
            children = self._rows[row][1]
            gap = gap + sum([self._gaps_below(child) for child in children[:index]])
            row = children[index]
        return gap

    def key_at(self, number):
        """The path of the node with the key that has this number, and the number of the key in it."""
        if not is_index(number, self.size):
            raise InvalidNumber(number)
        path = []
        row = len(self._rows) - 1
        while True:
            index = 0
            for child in self._rows[row][1]:
                if number < self._gaps_below(child):
                    break
                number = number - self._gaps_below(child)
                index = index + 1
            child = self._rows[row][1][index]
            if number + 1 == self._gaps_below(child):
                return tuple(path), index
            path.append(index)
            row = child

    def below(self, path):
        """The subtree at a path."""
        row = self._way_to(path)[-1]
        forest = Forest()
        forest.top_of(self._rows)
        return shape_of(self._scheme, forest, row)

    def name_at(self, path):
        """The name of the form at a path, None for a gap."""
        row = self._way_to(path)[-1]
        return None if row is None else self._rows[row][0]

    def replaced(self, path, other):
        """The shape with another one in the place of the one subtree at a path."""
        way = self._way_to(path)
        if not is_over(self._scheme, other):
            raise InvalidShape("a subtree is replaced by a shape over the same scheme")
        forest = Forest()
        forest.top_of(self._rows)
        top = forest.top_of(other.rows)
        for depth in reversed(range(len(path))):
            name, children = self._rows[way[depth]]
            top = forest.row_of(name, (*children[:path[depth]], top, *children[path[depth] + 1:]))
        return shape_of(self._scheme, forest, top)

    def mirrored(self):
        """The shape over the mirrored scheme in which all children stand in the opposite order."""
        rows = [(name, children[::-1]) for name, children in self._rows]
        return Shape(mirrored_scheme(self._scheme), tuple(rows))

    def __len__(self):
        return len(self._rows)

    def __bool__(self):
        return bool(self._rows)

    def __eq__(self, other):
        return isinstance(other, Shape) and self.rows == other.rows and self.scheme == other.scheme

    def __str__(self):
        return f"shape with {self.size} keys, height {self.height}"

    def _gaps_below(self, row):
        return 1 if row is None else self._gaps[row]

    def _way_to(self, path):
        """The list of the rows from the top down to what stands at a path."""
        if not isinstance(path, tuple):
            raise UnknownPath(path)
        way = [len(self._rows) - 1 if self._rows else None]
        for index in path:
            if way[-1] is None or not is_index(index, len(self._rows[way[-1]][1])):
                raise UnknownPath(path)
            way.append(self._rows[way[-1]][1][index])
        return way


def shape_of(scheme, forest, top):
    """The shape of a tree in a forest."""
    return shape_with(scheme, forest.plain_rows(top))


def shape_with(scheme, rows):
    """The shape with the plain rows of a tree over the scheme."""
    return Shape(scheme, _counted(rows))


def right_shape_of(scheme, value):
    """The right shape with these rows, plain or not; None if there is none."""
    if not is_rows(scheme, value, MAX_ROWS):
        return None
    shape = Shape(scheme, value)
    return shape if shape.is_right else None


def is_over(scheme, value):
    """Whether the value is a shape over the scheme."""
    return isinstance(value, Shape) and value.scheme == scheme


def _counted(rows):
    """The same rows, if they are not too many."""
    if len(rows) > MAX_ROWS:
        raise TooMany(MAX_ROWS)
    return rows


def _gaps_of(rows):
    """The list of the numbers of gaps of the trees of all rows."""
    gaps = []
    for _, children in rows:
        gaps.append(sum([1 if row is None else gaps[row] for row in children]))
    return gaps


def _heights_of(rows):
    """The list of the heights of the trees of all rows."""
    heights = []
    for _, children in rows:
        heights.append(1 + max([0 if row is None else heights[row] for row in children]))
    return heights


def _spots_of(scheme, rows):
    """The list of the spots of the trees of all rows, None for those that are not sound."""
    spots = []
    for name, children in rows:
        below = [(scheme.bare, 0) if row is None else spots[row] for row in children]
        spots.append(_spot_of_node(scheme[name], below))
    return spots


def _spot_of_node(form, spots):
    """The spot of a node whose children have these spots, None if it is not sound."""
    ranks = []
    for spot, (sort, step) in zip(spots, form.children):
        if spot is None or spot[0] != sort:
            return None
        ranks.append(spot[1] + step)
    return (form.sort_name, ranks[0]) if min(ranks) == max(ranks) else None
