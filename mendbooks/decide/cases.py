"""Whether a drawing fits at a place whatever stands there, and what can stand there if none fits."""

from heapq import heappop, heappush
from math import lcm

from mendbooks.base.words import is_indices
from mendbooks.books.sides import side_of
from mendbooks.decide.rows import place_of, spots_beside


class Site:
    """A row or a start of a table: the drawings of its place, and the spots of the subtrees beside the odd child.

    These are any sound trees with their spots, so what stands at the top of one does not depend on the others.
    A case is a dict from paths to what stands there, "" for an empty tree.
    """

    def __init__(self, book, existence, row):
        self._scheme = book.scheme
        self._existence = existence
        self._row = row
        self._drawings = book.at(place_of(row))
        self._spots = spots_beside(book.scheme, row)
        self._is_right_top = row[0] == "" and side_of(book.scheme, row[3])[0] in book.scheme.tops

    def fitting(self):
        """The drawings that can fit here; a right tree needs none at its top."""
        if self._is_right_top:
            return []
        return [drawing for drawing in self._drawings if self._parts_of(drawing, {}) > 0]

    def is_covered(self):
        """Whether some drawing fits, whatever stands here."""
        return self._is_right_top or self._is_full(self._drawings, {})

    def open_case(self):
        """What can stand here so that no drawing fits, with None for an empty tree; None if this cannot be."""
        if self.is_covered():
            return None
        case = {}
        rest = self._drawings
        while rest:
            path = _next_path(rest[0], case)
            case[path] = self._open_choice(rest, case, path)
            rest = [drawing for drawing in rest if not _is_refuted(drawing, case)]
        return {path: case[path] if case[path] else None for path in sorted(case)}

    def cheapest_open_case(self, growth):
        """A case in which no drawing fits, and in which as few keys as possible stand; None if there is none."""
        if self.is_covered():
            return None
        cases = [({}, self._drawings)]
        queue = []
        heappush(queue, (growth.keys_of(self._row, {}), 0))
        while True:
            # What a case tells more can only cost more keys, so the first case without drawings is a cheapest one.
            case, rest = cases[heappop(queue)[1]]
            if not rest:
                return case
            path = _next_path(rest[0], case)
            for choice in self._choices_at(self._spots_in(case)[path]):
                narrow = {**case, path: choice}
                fewer = [drawing for drawing in rest if not _is_refuted(drawing, narrow)]
                if not self._is_full(fewer, narrow):
                    heappush(queue, (growth.keys_of(self._row, narrow), len(cases)))
                    cases.append((narrow, fewer))

    def is_case(self, value):
        """Whether the value tells, with None for an empty tree, what can stand here so that no drawing fits."""
        if self._is_right_top or not isinstance(value, dict) or not all([is_indices(path) for path in value]):
            return False
        spots = dict(self._spots)
        for path in sorted(value):
            if path not in spots or not self._can_stand(spots[path], value[path]):
                return False
            spots.update(self._spots_below(path, spots[path], value[path]))
        return all([_is_refuted(drawing, value) for drawing in self._drawings])

    def _open_choice(self, drawings, case, path):
        """What can stand at a path so that these drawings do not fill the case with it."""
        for choice in self._choices_at(self._spots_in(case)[path]):
            narrow = {**case, path: choice}
            if not self._is_full([drawing for drawing in drawings if not _is_refuted(drawing, narrow)], narrow):
                return choice
        return None

    def _is_full(self, drawings, case):
        """Whether in each tree of the case one of the drawings fits.

        No two of them fit in one tree, as they are apart. So the parts of the case in which they fit are added.
        """
        parts = [self._parts_of(drawing, case) for drawing in drawings]
        whole = 1
        for many in parts:
            if many > 0:
                whole = lcm(whole, many)
        return sum([whole // many for many in parts if many > 0]) == whole

    def _parts_of(self, drawing, case):
        """Into how many equal parts the case is divided by what the drawing opens; it fits in one, 0 if in none."""
        spots = dict(self._spots)
        many = 1
        for path, name in drawing.opened_pairs:
            choices = self._choices_at(spots[path])
            if name not in choices or case.get(path, name) != name:
                return 0
            if path not in case:
                many = many * len(choices)
            spots.update(self._spots_below(path, spots[path], name))
        return many

    def _spots_in(self, case):
        """The spots of all subtrees of which a case tells the node above them."""
        spots = dict(self._spots)
        for path in sorted(case):
            spots.update(self._spots_below(path, spots[path], case[path]))
        return spots

    def _spots_below(self, path, spot, name):
        """The spots of the children of a node, by their paths; there are none if it is an empty tree."""
        if not name:
            return {}
        return {(*path, index): (sort, spot[1] - step) for index, (sort, step) in enumerate(self._scheme[name])}

    def _choices_at(self, spot):
        return self._existence.choices_at(spot[0], spot[1])

    def _can_stand(self, spot, value):
        return value != "" and ("" if value is None else value) in self._choices_at(spot)


def case_of(drawing):
    """The case in which just the names stand that a drawing opens."""
    return {path: name for path, name in drawing.opened_pairs}


def _next_path(drawing, case):
    """The first path that a drawing opens of which a case tells nothing."""
    paths = [path for path, _ in drawing.opened_pairs if path not in case]
    return paths[0]


def _is_refuted(drawing, case):
    """Whether something else stands at a path that the drawing opens."""
    return any([path in case and case[path] != name for path, name in drawing.opened_pairs])
