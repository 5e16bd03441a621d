"""How drawings are done in a tree, one above the other."""

from mendbooks.trees.forest import Forest
from mendbooks.trees.shapes import shape_of


class Mending:
    """A tree on its way from a rearranged subtree up to the top.

    `way` has the rows from the top down to where the first drawing is done, `path` the indices between them.
    """

    def __init__(self, book, shape, path):
        self._book = book
        self._forest = Forest()
        self._forest.top_of(shape.rows)
        self._path = path
        self._way = _way_of(shape, path)
        self._depth = len(path)
        self._row = self._way[-1]
        self._fresh = 0
        self._done = []
        self._failing = None

    @property
    def done(self):
        """The pairs of a path and a drawing, in the order in which they were done."""
        return tuple(self._done)

    @property
    def failing(self):
        """The place at which no drawing fits, None if there is none."""
        return self._failing

    @property
    def fresh(self):
        """The number of nodes that are made anew."""
        return self._fresh + self._depth

    def put(self):
        """Does the put at the gap to which the path leads, and mends the tree."""
        self._rearrange(self._book.put_drawing, (None, None))
        self._mend_upward(self._book.put_drawing)

    def cut(self):
        """Does a cut at the gap to which the path leads, and mends the tree."""
        self._depth = self._depth - 1
        self._row = self._way[self._depth]
        index = self._path[self._depth]
        drawing = self._fitting(("cut", self._forest.name_of(self._row), index))
        if drawing is not None:
            self._do(drawing)
            self._mend_upward(drawing)

    def left_shape(self):
        """The shape that is left."""
        top = self._row
        for depth in reversed(range(self._depth)):
            top = self._forest.exchanged(self._way[depth], self._path[depth], top)
        return shape_of(self._book.scheme, self._forest, top)

    def _mend_upward(self, drawing):
        while drawing is not None and self._depth > 0 and drawing.is_odd:
            self._depth = self._depth - 1
            index = self._path[self._depth]
            self._row = self._forest.exchanged(self._way[self._depth], index, self._row)
            name = self._forest.name_of(self._row)
            drawing = self._fitting(("mend", name, index, drawing.result[1], drawing.hand))
            if drawing is not None:
                self._do(drawing)
        if drawing is not None and self._depth == 0 and drawing.result[0] not in self._book.scheme.tops:
            top = self._fitting(("top", drawing.hand))
            if top is not None:
                self._do(top)

    def _fitting(self, place):
        """The drawing of a place that fits; if there is none, the deed fails there."""
        for drawing in self._book.at(place):
            if self._fits(drawing):
                return drawing
        self._failing = place
        return None

    def _fits(self, drawing):
        for path, name in drawing.opened_pairs:
            # Paths ascend: what stands above has been compared already, so the path is there.
            if self._forest.name_of(self._forest.followed(self._row, path)) != name:
                return False
        return True

    def _do(self, drawing):
        self._rearrange(drawing, [self._forest.followed(self._row, path) for path in drawing.hole_paths])

    def _rearrange(self, drawing, rows):
        """Puts the second picture in the place of the subtree, with these rows for its holes."""
        self._done.append((self._path[:self._depth], drawing))
        self._fresh = self._fresh - drawing.eaten + len(drawing)
        self._row = _planted(self._forest, drawing.picture, rows)


def _way_of(shape, path):
    """The rows from the top of a shape down to what stands at a path."""
    way = [len(shape) - 1 if shape else None]
    for index in path:
        way.append(shape.rows[way[-1]][1][index])
    return way


def _planted(forest, picture, rows):
    """The row of a picture that has these rows in its holes."""
    if not picture:
        return rows[0]
    children = []
    begin = 0
    for part in picture.parts:
        children.append(_planted(forest, part, rows[begin:begin + part.holes]))
        begin += part.holes
    return forest.row_of(picture.called, tuple(children))
