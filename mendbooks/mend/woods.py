"""What is done with the nodes of a wood, with keys or without them.

A wood has the methods `name_of`, `limbs_of` and `contents_of` of its nodes, `node_of` for a new one, and `changed_key`.
None stands for an empty tree in each wood.
"""

from mendbooks.base.pictures import HOLE


def followed(wood, node, path):
    """What stands below a node at a path that is there."""
    for index in path:
        node = wood.limbs_of(node)[index]
    return node


def way_along(wood, node, path):
    """The list of what stands from a node down to a path."""
    way = [node]
    for index in path:
        way.append(wood.limbs_of(way[-1])[index])
    return way


def exchanged(wood, node, index, limb):
    """The node with another child at this index."""
    limbs = wood.limbs_of(node)
    return wood.node_of(wood.name_of(node), wood.contents_of(node), (*limbs[:index], limb, *limbs[index + 1:]))


def paired(wood, left, right, key):
    """A node without a name that has both sides of a join as its children."""
    return wood.node_of("", (key,), (left, right))


def rearranged(wood, node, drawing):
    """What stands in the place of a node when a drawing is done there."""
    holes = []
    keys = []
    if drawing.kind == "put":
        holes = [None, None]
        keys = [wood.changed_key()]
    else:
        _gather(wood, node, (), drawing.hole_paths, holes, keys)
    if drawing.kind == "cut":
        keys.remove(wood.changed_key())
    return _planted(wood, drawing.picture, holes, keys)


def hand_of_form(form):
    """The hand in which only the form at the top is told."""
    holes = " ".join([HOLE] * len(form))
    return f"{form.called}({holes})"


def _gather(wood, node, path, ends, holes, keys):
    """Adds what stands in the holes of a first picture, and the keys between them, both from left to right."""
    if path in ends:
        holes.append(node)
        return
    contents = wood.contents_of(node) if node is not None else ()
    for index, limb in enumerate(wood.limbs_of(node)):
        if index > 0:
            keys.append(contents[index - 1])
        _gather(wood, limb, (*path, index), ends, holes, keys)


def _planted(wood, picture, holes, keys):
    """The node of a picture that has these trees in its holes, and these keys between them."""
    if not picture:
        return holes[0]
    limbs = []
    contents = []
    begin = 0
    for part in picture.parts:
        end = begin + part.holes
        limbs.append(_planted(wood, part, holes[begin:end], keys[begin:end - 1]))
        contents.extend(keys[end - 1:end])
        begin = end
    return wood.node_of(picture.called, tuple(contents), tuple(limbs))
