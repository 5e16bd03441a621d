"""How many sound trees there are, and which of them has which number in their order."""

from mendbooks.base.forms import MAX_STEP


class Census:
    """The numbers of the sound trees over a scheme, for up to so many keys.

    A filling of a form at a rank is a choice of trees for its children from some index on, with so many keys in all.
    """

    def __init__(self, scheme, most):
        self._scheme = scheme
        self._highest = 0
        self._fillings = {}
        # For each number of keys a dict from spots to numbers of trees.
        self._trees = [{(scheme.bare, 0): 1}]
        while len(self._trees) <= most:
            self._count_next()

    def many_at(self, sort, rank, keys):
        """The number of sound trees with this sort, rank and number of keys."""
        return self._trees[keys].get((sort, rank), 0)

    def many_right(self, keys):
        """The number of right trees with this number of keys."""
        return sum([many for (sort, _), many in self._trees[keys].items() if sort in self._scheme.tops])

    def right_tree(self, forest, keys, number):
        """The row in a forest of the right tree with this number, which is below `many_right`."""
        rank = 0
        many = self._many_tops(rank, keys)
        while number >= many:
            number = number - many
            rank = rank + 1
            many = self._many_tops(rank, keys)
        return self._tree(forest, self._scheme.tops, rank, keys, number)

    def number_of(self, shape):
        """The number of a right shape among the right trees with as many keys."""
        told = []
        for name, children in shape.rows:
            below = [(0, 0, 0) if row is None else told[row] for row in children]
            sort, step = self._scheme[name][0]
            rank = below[0][0] + step
            keys = len(children) - 1 + sum([many for _, many, _ in below])
            # The whole tree stands among those of all top sorts, a subtree among those of its own sort.
            sorts = self._scheme.tops if len(told) + 1 == len(shape.rows) else (self._scheme[name].sort_name,)
            told.append((rank, keys, self._number_of_node(sorts, name, rank, keys, below)))
        if not told:
            return 0
        rank, keys, number = told[-1]
        return number + sum([self._many_tops(lower, keys) for lower in range(rank)])

    def _count_next(self):
        keys = len(self._trees)
        found = {}
        for form in self._scheme.forms:
            for rank in range(self._highest + MAX_STEP + 1):
                many = self._many_nodes(form.called, rank, keys)
                if many > 0:
                    spot = (form.sort_name, rank)
                    found[spot] = found.get(spot, 0) + many
        self._trees.append(found)
        self._highest = max([self._highest, *[rank for _, rank in found]])

    def _many_tops(self, rank, keys):
        return sum([self.many_at(sort, rank, keys) for sort in self._scheme.tops])

    def _many_nodes(self, name, rank, keys):
        """The number of sound nodes with this form, rank and number of keys."""
        rest = keys - len(self._scheme[name]) + 1
        return self._many_fillings(name, rank, 0, rest) if rest >= 0 else 0

    def _many_fillings(self, name, rank, index, keys):
        form = self._scheme[name]
        if index == len(form):
            return 1 if keys == 0 else 0
        filling = (name, rank, index, keys)
        if filling not in self._fillings:
            sort, step = form[index]
            many = [self.many_at(sort, rank - step, here) for here in range(keys + 1)]
            self._fillings[filling] = sum([trees * self._many_fillings(name, rank, index + 1, keys - here)
                                           for here, trees in enumerate(many) if trees > 0])
        return self._fillings[filling]

    def _names_of(self, sorts):
        return [form.called for form in self._scheme.forms if form.sort_name in sorts]

    def _tree(self, forest, sorts, rank, keys, number):
        """The row of the sound tree with this number among those with one of the sorts, a rank and so many keys."""
        if keys == 0:
            return None
        for name in self._names_of(sorts):
            many = self._many_nodes(name, rank, keys)
            if number < many:
                return forest.row_of(name, self._rows_of_children(forest, name, rank, keys, number))
            number = number - many
        return None

    def _rows_of_children(self, forest, name, rank, keys, number):
        """The rows of the children of the node with this number among those of its form, rank and number of keys."""
        rows = []
        rest = keys - len(self._scheme[name]) + 1
        for index, (sort, step) in enumerate(self._scheme[name]):
            here = 0
            behind = self._many_fillings(name, rank, index + 1, rest)
            while number >= self.many_at(sort, rank - step, here) * behind:
                number = number - self.many_at(sort, rank - step, here) * behind
                here = here + 1
                behind = self._many_fillings(name, rank, index + 1, rest - here)
            rows.append(self._tree(forest, (sort,), rank - step, here, number // behind))
            number = number % behind
            rest = rest - here
        return tuple(rows)

    def _number_of_node(self, sorts, name, rank, keys, below):
        """The number of a node among those with one of the sorts; of each child are told rank, keys and number."""
        number = sum([self._many_nodes(other, rank, keys) for other in self._names_of(sorts) if other < name])
        rest = keys - len(below) + 1
        for index, (_, many, at) in enumerate(below):
            sort, step = self._scheme[name][index]
            lower = [self.many_at(sort, rank - step, here) * self._many_fillings(name, rank, index + 1, rest - here)
                     for here in range(many)]
            number = number + sum(lower) + at * self._many_fillings(name, rank, index + 1, rest - many)
            rest = rest - many
        return number
