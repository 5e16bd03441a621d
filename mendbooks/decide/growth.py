"""Trees with as few keys as possible around the ways of deeds.

A way is a list of pieces from its start upward. A piece is a pair of a row or a start, with its own rank, and a case.
"""

from mendbooks.base.forms import MAX_STEP
from mendbooks.decide.rows import is_start_of_join, node_at, spots_beside
from mendbooks.ranks.leasts import Leasts
from mendbooks.trees.forest import Forest
from mendbooks.trees.shapes import shape_of


class Growth:
    """The least numbers of keys at rows and starts over a scheme, and the trees that have them."""

    def __init__(self, scheme):
        self._scheme = scheme
        self._leasts = Leasts(scheme)

    def keys_of(self, row, case):
        """The least number of keys at a row or a start, outside of the odd child, if a case stands there."""
        spots = spots_beside(self._scheme, row)
        beside = sum([self._keys_at(path, spots[path], case) for path in spots])
        if row == ("put",) or is_start_of_join(row):
            return beside
        return beside + len(self._scheme[node_at(row)[0]]) - 1

    def least_from(self, rank):
        """The least number of keys of a sound tree whose rank is not below this one, None if there is none."""
        # Each higher tree has a subtree at one of these ranks.
        found = [self._leasts.keys_at(sort, rank + more) for sort in self._scheme.sorts for more in range(MAX_STEP)]
        return min([keys for keys in found if keys is not None], default=None)

    def grown(self, kind, pieces):
        """The pair of a right shape and a deed of a kind, or of two right shapes, that has this way up to the top."""
        forest = Forest()
        rows = self._leasts.planted(forest, [spot for row, case in pieces for spot in self._least_spots(row, case)])
        top = None
        other = None
        path = []
        for row, case in pieces:
            spots = spots_beside(self._scheme, row)
            beside = {at: self._planted(forest, rows, at, spots[at], case) for at in spots}
            if is_start_of_join(row):
                sides = (beside[(0,)], beside[(1,)])
                top, other = sides if kind == "left" else sides[::-1]
            elif row != ("put",):
                name, odd, _ = node_at(row)
                top = forest.row_of(name, tuple([beside.get((at,), top) for at in range(len(self._scheme[name]))]))
                path.append(odd)
        shape = shape_of(self._scheme, forest, top)
        if kind in ("put", "cut"):
            return shape, (kind, shape.gap_at(path[::-1]))
        twin = shape_of(self._scheme, forest, other)
        return (shape, twin) if kind == "left" else (twin, shape)

    def _keys_at(self, path, spot, case):
        """The least number of keys of a subtree at a path, if a case stands there."""
        if path not in case:
            return self._leasts.keys_at(spot[0], spot[1])
        if not case[path]:
            return 0
        below = self._spots_below(path, spot, case)
        return len(below) - 1 + sum([self._keys_at(lower, below[lower], case) for lower in below])

    def _least_spots(self, row, case):
        """The list of the spots of all subtrees at a row or a start of which a case tells nothing."""
        found = []
        waiting = [(path, spot) for path, spot in spots_beside(self._scheme, row).items()]
        while waiting:
            path, spot = waiting.pop()
            if path not in case:
                found.append(spot)
            elif case[path]:
                waiting.extend([(lower, below) for lower, below in self._spots_below(path, spot, case).items()])
        return found

    def _planted(self, forest, rows, path, spot, case):
        """The row in a forest of a subtree at a path, with least subtrees where a case tells nothing."""
        if path not in case:
            return rows[spot]
        if not case[path]:
            return None
        below = self._spots_below(path, spot, case)
        limbs = [self._planted(forest, rows, lower, below[lower], case) for lower in below]
        return forest.row_of(case[path], tuple(limbs))

    def _spots_below(self, path, spot, case):
        """The spots of the children of the node that a case tells at a path, by their paths."""
        children = self._scheme[case[path]].children
        return {(*path, index): (sort, spot[1] - step) for index, (sort, step) in enumerate(children)}
