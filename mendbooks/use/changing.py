"""Single keys put into trees with keys, and cut from them."""

from mendbooks.errors import NoMend
from mendbooks.mend.mending import Mending
from mendbooks.mend.woods import way_along
from mendbooks.use.grove import Grove, Knot, path_above


def put_into(book, top, key):
    """The top of a right tree with one key more."""
    mending = Mending(book, Grove(key), top, path_above(top, key))
    mending.put()
    return _left_by(mending)


def cut_from(book, top, key):
    """The top of a right tree without one of its keys."""
    path = path_above(top, key)
    top, gone = _freed(top, path, key)
    mending = Mending(book, Grove(gone), top, path)
    mending.cut()
    return _left_by(mending)


def _left_by(mending):
    if mending.failing is not None:
        raise NoMend(mending.failing)
    return mending.left_top()


def _freed(top, path, key):
    """The tree in which a key that goes stands beside the gap at a path, and this key.

    A cut takes a key beside its gap. If the key that shall go stands further up, the one that stands beside the gap,
    which is the next one, takes its place.
    """
    way = way_along(Grove(key), top, path)
    knot = way[-2]
    if path[-1] > 0:
        return top, key
    moved = knot.contents[0]
    for depth in reversed(range(len(path) - 1)):
        above = way[depth]
        index = path[depth]
        contents = [moved if other == key else other for other in above.contents]
        knot = Knot(above.label, tuple(contents), (*above.limbs[:index], knot, *above.limbs[index + 1:]))
    return knot, moved
