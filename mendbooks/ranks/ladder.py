"""Ways from subtrees up to right trees, with as few keys as possible outside of the subtrees."""

from heapq import heappop, heappush

from mendbooks.ranks.leasts import Leasts


class Ladder:
    """The ways up in a scheme. A way is a list of steps (name, index, rank): the nodes above a subtree, upward."""

    def __init__(self, existence):
        self._existence = existence
        self._useful = existence.useful_from(None)
        self._leasts = Leasts(existence.scheme)
        self._costs = {}
        self._steps = {}

    @property
    def leasts(self):
        """The least trees that stand beside the ways."""
        return self._leasts

    def useful_at(self, rank):
        """The sorts that are useful at a rank, ascending."""
        return self._useful[self._existence.base_of(rank)]

    def steps_above(self, sort, rank):
        """The useful nodes directly above a subtree with this spot, as steps."""
        if (sort, rank) not in self._steps:
            self._steps[(sort, rank)] = self._existence.nodes_above(sort, rank, None, self._useful)
        return self._steps[(sort, rank)]

    def keys_beside(self, step):
        """The least number of keys of the node of a step, without those of its subtree."""
        name, index, rank = step
        if step not in self._costs:
            sort, low = self._existence.scheme[name][index]
            self._costs[step] = self._leasts.keys_of_node(name, rank) - self._leasts.keys_at(sort, rank - low)
        return self._costs[step]

    def cheapest(self, keys):
        """The least number of keys of a right tree above one of the spots of a dict to numbers of keys.

        It comes with the spot that is chosen and the way up from there; None if none of the spots is useful.
        """
        trail = [(spot, None, None) for spot in keys if spot[0] in self.useful_at(spot[1])]
        queue = []
        for number, (spot, _, _) in enumerate(trail):
            heappush(queue, (keys[spot], number))
        done = set()
        while queue:
            many, number = heappop(queue)
            spot = trail[number][0]
            if spot[0] in self._existence.scheme.tops:
                begin, way = _way_along(trail, number)
                return many, begin, way
            if spot in done:
                continue
            done.add(spot)
            for step in self.steps_above(spot[0], spot[1]):
                above = (self._existence.scheme[step[0]].sort_name, step[2])
                heappush(queue, (many + self.keys_beside(step), len(trail)))
                trail.append((above, number, step))
        return None

    def climbed(self, forest, row, way):
        """The row to which the tree of a row grows by a way, with least trees as the other children."""
        beside = [spot for step in way for spot in self._spots_beside(step)]
        rows = self._leasts.planted(forest, beside)
        for name, index, rank in way:
            children = [rows.get((sort, rank - step)) for sort, step in self._existence.scheme[name].children]
            children[index] = row
            row = forest.row_of(name, tuple(children))
        return row

    def _spots_beside(self, step):
        """The spots of the other children of the node of a step."""
        name, index, rank = step
        children = self._existence.scheme[name].children
        return [(sort, rank - low) for at, (sort, low) in enumerate(children) if at != index]


def _way_along(trail, number):
    """The spot at which a trail begins that ends with this number, and the list of its steps."""
    way = []
    spot, below, step = trail[number]
    while below is not None:
        way.append(step)
        spot, below, step = trail[below]
    return spot, way[::-1]
