"""Sound trees with as few keys as possible."""


class Leasts:
    """For each spot the least number of keys of its sound trees, and one form with which it is reached."""

    def __init__(self, scheme):
        self._scheme = scheme
        self._by_rank = []

    def keys_at(self, sort, rank):
        """The least number of keys of a sound tree with this spot, None if there is none."""
        top = self._top_at(sort, rank)
        return None if top is None else top[0]

    def keys_of_node(self, name, rank):
        """The least number of keys of a sound node with this form and rank, None if there is none."""
        form = self._scheme[name]
        keys = [self.keys_at(sort, rank - step) for sort, step in form.children]
        return None if None in keys else len(form) - 1 + sum(keys)

    def planted(self, forest, spots):
        """Dicts from these spots, and all below them, to the rows of their least trees in a forest."""
        rows = {(self._scheme.bare, 0): None}
        waiting = list(spots)
        while waiting:
            spot = waiting[-1]
            if spot in rows:
                waiting.pop()
                continue
            sort, rank = spot
            name = self._top_at(sort, rank)[1]
            below = [(lower, rank - step) for lower, step in self._scheme[name].children]
            missing = [lower for lower in below if lower not in rows]
            if missing:
                waiting.extend(missing)
            else:
                rows[spot] = forest.row_of(name, tuple([rows[lower] for lower in below]))
        return rows

    def _top_at(self, sort, rank):
        """The least number of keys at a spot and the form of the top, None if no sound tree has this spot."""
        if rank < 0:
            return None
        while len(self._by_rank) <= rank:
            self._add_rank()
        return self._by_rank[rank].get(sort)

    def _add_rank(self):
        rank = len(self._by_rank)
        found = {self._scheme.bare: (0, "")} if rank == 0 else {}
        self._by_rank.append(found)
        changed = True
        while changed:
            changed = False
            for form in self._scheme.forms:
                keys = self.keys_of_node(form.called, rank)
                if keys is not None and (form.sort_name not in found or keys < found[form.sort_name][0]):
                    found[form.sort_name] = (keys, form.called)
                    changed = True
