"""Along which start and which rows the mending of a deed or a join goes, told from what is done in one tree."""

from mendbooks.mend.deeds import _tried
from mendbooks.mend.seams import Seams
from mendbooks.ranks.ranks import Ranks
from mendbooks.trees.forest import Forest
from mendbooks.trees.shapes import Shape


def parts_of(book, pair):
    """The start and the rows of the mending, the last one with the place of failing, and whether it fails."""
    base_of = Ranks(book.scheme).base_of
    shape, other = pair
    if isinstance(other, Shape):
        forest = Forest()
        mending = Seams(book, forest).tried(forest.top_of(shape.rows), forest.top_of(other.rows), None)
        tree = shape if shape.spot[1] >= other.spot[1] else other
        path = mending._path
        place = mending.done[0][1].place if mending.done else mending.failing
        parts = [(*place, base_of(tree.below(path).spot[1]))]
        level = 0 if tree is shape else place[3]
        was = (tree.below(path).spot[0], level)
    else:
        mending, _ = _tried(book, shape, other)
        tree = shape
        path = shape.path_to(other[1])
        if other[0] == "put":
            parts, was = [("put",)], (book.scheme.bare, 0)
        else:
            path, index = path[:-1], path[-1]
            node = shape.below(path)
            parts = [("cut", shape.name_at(path), index, node.spot[1])]
            was = (node.spot[0], 0)
    for at, (path, drawing) in enumerate(mending.done):
        if at > 0 and drawing.kind == "mend":
            parts.append((*drawing.place[1:], base_of(tree.below(path).spot[1])))
            was = (book.scheme[drawing.place[1]].sort_name, 0)
        is_odd = drawing.result != was or drawing.kind == "put"
        if path == () and drawing.kind != "top" and is_odd:
            parts.append(("", 0, 0, drawing.hand, 0))
    if mending.failing is not None and mending.failing[0] == "mend":
        above = mending.done[-1][0][:-1]
        parts.append((*mending.failing[1:], base_of(tree.below(above).spot[1])))
    return tuple(parts), mending.failing
