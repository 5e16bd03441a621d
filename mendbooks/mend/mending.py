"""How drawings are done in a tree, one above the other."""

from mendbooks.mend.woods import exchanged, followed, paired, rearranged, way_along


class Mending:
    """A tree in a wood on its way from a rearranged subtree up to the top.

    `way` has the nodes from the top down to where the first drawing is done, `path` the indices between them.
    """

    def __init__(self, book, wood, top, path):
        self._book = book
        self._wood = wood
        self._path = path
        self._way = way_along(wood, top, path)
        self._depth = len(path)
        self._node = self._way[-1]
        self._fresh = 0
        self._done = []
        self._failing = None

    @property
    def done(self):
        """The pairs of a path and a drawing, in the order in which they were done."""
        return tuple(self._done)

    @property
    def failing(self):
        """The place at which no drawing fits, None if there is none."""
        return self._failing

    @property
    def fresh(self):
        """The number of nodes that are made anew."""
        return self._fresh + self._depth

    def put(self):
        """Does the put at the gap to which the path leads, and mends the tree."""
        drawing = self._book.put_drawing
        self._do(drawing)
        self._mend_upward(drawing, (self._book.scheme.bare, 0))

    def cut(self):
        """Does a cut at the gap to which the path leads, and mends the tree."""
        self._depth = self._depth - 1
        self._node = self._way[self._depth]
        name = self._wood.name_of(self._node)
        drawing = self._fitting(("cut", name, self._path[self._depth]))
        if drawing is not None:
            self._do(drawing)
            self._mend_upward(drawing, (self._book.scheme[name].sort_name, 0))

    def unite(self, other, key, difference, is_left):
        """Joins what stands at the path with another tree around a key, and mends the tree.

        `is_left` tells whether the place is the left side.
        """
        left, right = (self._node, other) if is_left else (other, self._node)
        place = ("join", self._sort_of(left), self._sort_of(right), difference)
        self._node = paired(self._wood, left, right, key)
        drawing = self._fitting(place)
        if drawing is not None:
            self._do(drawing)
            self._mend_upward(drawing, (place[1], 0) if is_left else (place[2], difference))

    def left_top(self):
        """The top of the tree that is left."""
        top = self._node
        for depth in reversed(range(self._depth)):
            top = exchanged(self._wood, self._way[depth], self._path[depth], top)
        return top

    def _mend_upward(self, drawing, was):
        """Goes on behind a drawing that was done where a sort and a level were."""
        while self._depth > 0 and drawing.result != was:
            self._depth = self._depth - 1
            index = self._path[self._depth]
            self._node = exchanged(self._wood, self._way[self._depth], index, self._node)
            name = self._wood.name_of(self._node)
            drawing = self._fitting(("mend", name, index, drawing.result[1] - was[1], drawing.hand))
            if drawing is None:
                return
            self._do(drawing)
            was = (self._book.scheme[name].sort_name, 0)
        if self._depth == 0 and drawing.result[0] not in self._book.scheme.tops:
            top = self._fitting(("top", drawing.hand))
            if top is not None:
                self._do(top)

    def _sort_of(self, node):
        scheme = self._book.scheme
        return scheme.bare if node is None else scheme[self._wood.name_of(node)].sort_name

    def _fitting(self, place):
        """The drawing of a place that fits; if there is none, the deed fails there."""
        for drawing in self._book.at(place):
            if self._fits(drawing):
                return drawing
        self._failing = place
        return None

    def _fits(self, drawing):
        for path, name in drawing.opened_pairs:
            # Paths ascend: what stands above has been compared already, so the path is there.
            if self._wood.name_of(followed(self._wood, self._node, path)) != name:
                return False
        return True

    def _do(self, drawing):
        """Does a drawing at the node."""
        self._done.append((self._path[:self._depth], drawing))
        self._fresh = self._fresh - drawing.eaten + len(drawing)
        self._node = rearranged(self._wood, self._node, drawing)
