"""High trees with few keys, and low ones with many."""

from mendbooks.ranks.ladder import Ladder
from mendbooks.ranks.ranks import existence_of


class Towers:
    """For each height the least trees that are at least so high; heights are added one by one."""

    def __init__(self, scheme):
        self._scheme = scheme
        self._ladder = Ladder(existence_of(scheme))
        # For each height a dict from spots to the least keys of a tree with a way of so many nodes, and its top step.
        self._layers = [{(scheme.bare, 0): (0, None)}]

    def rise(self):
        """Adds one height."""
        layer = {}
        for (sort, rank), (keys, _) in self._layers[-1].items():
            for step in self._ladder.steps_above(sort, rank):
                above = (self._scheme[step[0]].sort_name, step[2])
                many = keys + self._ladder.keys_beside(step)
                if above not in layer or many < layer[above][0]:
                    layer[above] = (many, step)
        self._layers.append(layer)

    def least_keys(self, height):
        """The least number of keys of a right tree that is at least so high, None if there is none."""
        found = self._cheapest(height)
        return None if found is None else found[0]

    def planted(self, forest, height):
        """The row in a forest of a right tree with so few keys that is at least so high; there has to be one."""
        _, spot, way = self._cheapest(height)
        below = []
        for layer in self._layers[height:0:-1]:
            step = layer[spot][1]
            below.append(step)
            sort, low = self._scheme[step[0]][step[1]]
            spot = (sort, step[2] - low)
        return self._ladder.climbed(forest, None, [*below[::-1], *way])

    def _cheapest(self, height):
        layer = self._layers[height]
        return self._ladder.cheapest({spot: layer[spot][0] for spot in layer})


class Crowns:
    """The greatest numbers of keys of sound trees that are at most so high; heights are added one by one."""

    def __init__(self, scheme):
        self._scheme = scheme
        self._keys = self._of_empty_trees()

    def rise(self):
        """Adds one height."""
        keys = self._of_empty_trees()
        for form in self._scheme.forms:
            found = keys[form.sort_name]
            first, step = form[0]
            for below in self._keys[first]:
                many = self._most_at(form, below + step)
                if many is not None:
                    found[below + step] = max(many, found.get(below + step, 0))
        self._keys = keys

    def most_keys(self):
        """The greatest number of keys of a right tree that is at most so high."""
        return max([keys for sort in self._scheme.tops for keys in self._keys[sort].values()])

    def _of_empty_trees(self):
        """For each sort a dict from ranks to numbers of keys, with nothing but the empty tree."""
        return {sort: {0: 0} if sort == self._scheme.bare else {} for sort in self._scheme.sorts}

    def _most_at(self, form, rank):
        """The greatest number of keys of a node one level higher, None if it has no such children."""
        below = [self._keys[sort].get(rank - step) for sort, step in form.children]
        return None if None in below else len(form) - 1 + sum(below)
