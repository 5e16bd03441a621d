"""Two trees with keys made into one: the keys of both, or those of the first one alone."""

from mendbooks.mend.seams import Seams
from mendbooks.use.changing import cut_from
from mendbooks.use.grove import Grove, keys_of, last_key, path_above, planted, rows_of


def merged(book, one, other, is_union):
    """The top of a tree of new nodes with the keys of both trees, or with those that only the first one has."""
    seams = Seams(book, Grove(None))
    made = []
    # Two trees wait to be merged; or a key waits to be joined, or left out, between two trees that are made.
    waiting = [(True, one, other)]
    while waiting:
        is_open, left, right = waiting.pop()
        if not is_open:
            behind = made.pop()
            made.append(_closed(book, seams, made.pop(), behind, left, right))
        elif left is None or right is None:
            made.append(right if left is None and is_union else left)
        else:
            key = left.contents[0]
            parts = seams.split(left, (), 0)
            others, is_shared = _split_at(seams, right, key)
            waiting.append((False, key, is_union or not is_shared))
            waiting.append((True, parts[1], others[1]))
            waiting.append((True, parts[0], others[0]))
    return planted(rows_of(made[0]), keys_of(made[0]))


def _split_at(seams, top, key):
    """The parts of a tree below and above a key, and whether it has this key."""
    path = path_above(top, key)
    knot = top
    for depth, index in enumerate(path):
        if key in knot.contents:
            return seams.split(top, path[:depth], index - 1), True
        knot = knot.limbs[index]
    return seams.split(top, path, None), False


def _closed(book, seams, left, right, key, belongs):
    """The top of two trees made one, with a key between them if it belongs to the result."""
    if belongs:
        return seams.joined(left, right, key)
    if left is None:
        return right
    last = last_key(left)
    return seams.joined(cut_from(book, left, last), right, last)
