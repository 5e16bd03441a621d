"""What exists at the ranks of a scheme, and what is useful there."""

from mendbooks.errors import TooMany

# Differences and depths stay below this; so behind the turn and as many ranks, all repeats.
_MARGIN = 12
# Sorts at a rank follow from those at so many ranks below it.
_WINDOW = 3


class Existence:
    """The sorts and the forms that exist at each rank; a rank is taken to its base.

    `most` bounds the sum of turn and period.
    """

    def __init__(self, scheme, most):
        sorts, turn, end = _sorts_until_repeated(scheme, most)
        self._scheme = scheme
        self._turn = turn
        self._period = end - turn
        bases = range(end + _MARGIN)
        self._sorts = [sorts[rank if rank < end else turn + (rank - turn) % (end - turn)] for rank in bases]
        self._forms = [_forms_of_rank(scheme, self._sorts, rank) for rank in bases]
        self._tops = [_tops_of_rank(scheme, self._sorts, self._forms, rank) for rank in bases]

    @property
    def scheme(self):
        """The scheme."""
        return self._scheme

    @property
    def turn(self):
        """The least rank from which on all repeats."""
        return self._turn

    @property
    def period(self):
        """The number of ranks after which all repeats."""
        return self._period

    @property
    def many_bases(self):
        """The number of bases."""
        return len(self._sorts)

    def base_of(self, rank):
        """The base of a rank."""
        if rank < len(self._sorts):
            return rank
        low = self._turn + _MARGIN
        return low + (rank - low) % self._period

    def sorts_at(self, rank):
        """The sorts that exist at a rank, ascending."""
        return self._sorts[self.base_of(rank)]

    def forms_at(self, rank):
        """The names of the forms that exist at a rank, ascending."""
        return self._forms[self.base_of(rank)]

    def choices_at(self, sort, rank):
        """What can be the top of a sound tree with this spot: names of forms, and "" for the empty tree."""
        return self._tops[self.base_of(rank)].get(sort, ())

    def useful_from(self, index):
        """The sorts that are useful at each base, if only children with this index count; with None, all do."""
        useful = [[sort for sort in sorts if sort in self._scheme.tops] for sorts in self._sorts]
        changed = True
        while changed:
            changed = False
            for rank in reversed(range(len(useful))):
                for sort in self._sorts[rank]:
                    if sort not in useful[rank] and self.nodes_above(sort, rank, index, useful):
                        useful[rank].append(sort)
                        changed = True
        return [tuple(sorted(sorts)) for sorts in useful]

    def nodes_above(self, sort, rank, index, useful):
        """The useful nodes directly above a child with this spot, as (name, index, rank)."""
        return [(name, at, rank + step) for name, at, step in children_of(self._scheme, sort, index)
                if name in self.forms_at(rank + step)
                and self._scheme[name].sort_name in useful[self.base_of(rank + step)]]


def children_of(scheme, sort, index):
    """The children of a sort in all forms, as (name, index, step); `index` picks one of each form, None picks all."""
    found = []
    for form in scheme.forms:
        for at, (name, step) in enumerate(form.children):
            if name == sort and (index is None or at == index or at == index + len(form)):
                found.append((form.called, at, step))
    return found


def _sorts_until_repeated(scheme, most):
    """The list of the sorts at the first ranks, the turn, and the first rank at which they repeat."""
    sorts = []
    windows = []
    while not windows or windows[-1] not in windows[:-1]:
        if len(windows) > most:
            raise TooMany(most)
        _add_rank(scheme, sorts)
        if len(sorts) >= _WINDOW:
            windows.append(tuple(sorts[-_WINDOW:]))
    return sorts, windows.index(windows[-1]), len(windows) - 1


def _add_rank(scheme, sorts):
    """Adds the ascending tuple of the sorts that exist at the next rank."""
    rank = len(sorts)
    sorts.append((scheme.bare,) if rank == 0 else ())
    more = True
    while more:
        # A child with the step 0 has the rank of its parent, so a form can make others possible here.
        names = _forms_of_rank(scheme, sorts, rank)
        found = tuple(sorted(set([*sorts[rank], *[scheme[name].sort_name for name in names]])))
        more = found != sorts[rank]
        sorts[rank] = found


def _forms_of_rank(scheme, sorts, rank):
    """The names of the forms whose children exist at the ranks below this one."""
    return tuple([form.called for form in scheme.forms if _can_stand(form, sorts, rank)])


def _can_stand(form, sorts, rank):
    return all([rank >= step and sort in sorts[rank - step] for sort, step in form.children])


def _tops_of_rank(scheme, sorts, forms, rank):
    """For each sort that exists at a rank, what can be the top of its trees."""
    tops = {sort: [] for sort in sorts[rank]}
    if rank == 0:
        tops[scheme.bare].append("")
    for name in forms[rank]:
        tops[scheme[name].sort_name].append(name)
    return {sort: tuple(tops[sort]) for sort in tops}
