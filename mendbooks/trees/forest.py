"""Rows of trees: each different tree has one row, however often it occurs."""

from mendbooks.base.words import is_index


class Forest:
    """Rows to which more can be added. Rows are known by their numbers; None stands for an empty tree."""

    def __init__(self):
        self._told = []
        self._numbers = {}

    def row_of(self, name, children):
        """The number of the row with this name and a tuple of such numbers; it is added if it is not there."""
        row = (name, children)
        if row not in self._numbers:
            self._numbers[row] = len(self._told)
            self._told.append(row)
        return self._numbers[row]

    def top_of(self, rows):
        """The number of the top of a tree with these rows, which are added."""
        numbers = []
        for name, children in rows:
            numbers.append(self.row_of(name, tuple([None if row is None else numbers[row] for row in children])))
        return numbers[-1] if numbers else None

    def name_of(self, number):
        """The name of a node, None for an empty tree."""
        return None if number is None else self._told[number][0]

    def followed(self, number, path):
        """The number of what stands below a node at a path that is there."""
        for index in path:
            number = self._told[number][1][index]
        return number

    def exchanged(self, number, index, child):
        """The number of the node with another child at this index."""
        name, children = self._told[number]
        return self.row_of(name, (*children[:index], child, *children[index + 1:]))

    def plain_rows(self, top):
        """The plain rows of a tree."""
        rows = []
        places = {}
        waiting = [] if top is None else [top]
        while waiting:
            number = waiting[-1]
            name, children = self._told[number]
            missing = [child for child in children if child is not None and child not in places]
            if missing:
                waiting.append(missing[0])
                continue
            waiting.pop()
            places[number] = len(rows)
            rows.append((name, tuple([places.get(child) for child in children])))
        return tuple(rows)


def is_rows(scheme, value, most):
    """Whether the value is the rows of a tree over a scheme, at most so many."""
    if not isinstance(value, tuple) or len(value) > most:
        return False
    used = set()
    for at, row in enumerate(value):
        if not _is_row(scheme, row, at):
            return False
        for child in row[1]:
            used.add(child)
    used.discard(None)
    return len(used) + 1 == len(value) or value == ()


def _is_row(scheme, value, many):
    """Whether the value is a row that can stand behind so many others."""
    if not isinstance(value, tuple) or len(value) != 2:
        return False
    name, children = value
    if name not in scheme.names or not isinstance(children, tuple) or len(children) != len(scheme[name]):
        return False
    return all([child is None or is_index(child, many) for child in children])
