"""Rows of trees: each different tree has one row, however often it occurs."""

from mendbooks.base.words import is_index


class Forest:
    """A wood of trees without keys, to which more can be added.

    Its nodes are known by the numbers of their rows; None stands for an empty tree. The places of keys hold None.
    """

    def __init__(self):
        self._told = []
        self._numbers = {}

    def row_of(self, name, children):
        """The number of the row with this name and a tuple of such numbers; it is added if it is not there."""
        row = (name, children)
        if row not in self._numbers:
            self._numbers[row] = len(self._told)
            self._told.append(row)
        return self._numbers[row]

    def top_of(self, rows):
        """The number of the top of a tree with these rows, which are added."""
        numbers = []
        for name, children in rows:
            numbers.append(self.row_of(name, tuple([None if row is None else numbers[row] for row in children])))
        return numbers[-1] if numbers else None

    def node_of(self, name, _, children):
        """The number of the row with this name and these children; keys do not matter here."""
        return self.row_of(name, children)

    def name_of(self, number):
        """The name of a node, None for an empty tree."""
        return None if number is None else self._told[number][0]

    def limbs_of(self, number):
        """The children of a node, none for an empty tree."""
        return () if number is None else self._told[number][1]

    def contents_of(self, number):
        """The keys of a node."""
        return (None,) * (len(self.limbs_of(number)) - 1)

    def changed_key(self):
        """The key that is put or cut."""
        return None

    def plain_rows(self, top):
        """The plain rows of a tree."""
        return () if top is None else ordered_rows(self._told, top)


def plain_rows_of(rows):
    """The plain rows of a tree that has these rows."""
    told = []
    numbers = {}
    places = []
    for name, children in rows:
        row = (name, tuple([None if child is None else places[child] for child in children]))
        if row not in numbers:
            numbers[row] = len(told)
            told.append(row)
        places.append(numbers[row])
    return ordered_rows(told, places[-1]) if places else ()


def ordered_rows(told, top):
    """The rows of the tree of one of the rows, without all others, in the order in which they are complete."""
    rows = []
    places = {}
    waiting = [top]
    while waiting:
        number = waiting[-1]
        name, children = told[number]
        missing = [child for child in children if child is not None and child not in places]
        if missing:
            waiting.append(missing[0])
            continue
        waiting.pop()
        places[number] = len(rows)
        rows.append((name, tuple([places.get(child) for child in children])))
    return tuple(rows)


def is_rows(scheme, value, most):
    """Whether the value is the rows of a tree over a scheme, at most so many."""
    if not isinstance(value, tuple) or len(value) > most:
        return False
    used = set()
    for at, row in enumerate(value):
        if not _is_row(scheme, row, at):
            return False
        for child in row[1]:
            used.add(child)
    used.discard(None)
    return len(used) + 1 == len(value) or value == ()


def _is_row(scheme, value, many):
    """Whether the value is a row that can stand behind so many others."""
    if not isinstance(value, tuple) or len(value) != 2:
        return False
    name, children = value
    if name not in scheme.names or not isinstance(children, tuple) or len(children) != len(scheme[name]):
        return False
    return all([child is None or is_index(child, many) for child in children])
