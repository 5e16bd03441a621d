"""The search for the cheapest trees in which deeds of a kind come to a certain point."""

from heapq import heappop, heappush

from mendbooks.decide.cases import case_of
from mendbooks.decide.growth import Growth
from mendbooks.decide.rows import whole_row


class Failing:
    """The point at which no drawing fits."""

    def cases_at(self, site, growth):
        """The cases, at most one, with which the point is reached at a row or a start with as few keys as possible."""
        case = site.cheapest_open_case(growth)
        return [] if case is None else [case]

    def is_top(self, course, hand):
        """Whether the point is reached where a hand is left of a whole tree."""
        return not course.site(whole_row(hand)).is_covered()


class Using:
    """The point at which the drawing with a line is done."""

    def __init__(self, line):
        self._line = line

    def cases_at(self, site, _):
        """The cases, at most one, with which the point is reached at a row or a start."""
        return [case_of(drawing) for drawing in site.fitting() if drawing.line == self._line]

    def is_top(self, course, hand):
        """Whether the point is reached where a hand is left of a whole tree."""
        return bool(self.cases_at(course.site(whole_row(hand)), None))


class Chase:
    """Ways with as few keys as possible; what has been reached is kept by the number of its last step.

    A state is an oddity of the course; or (sort, rank, apart), where the point lies behind and only a right tree is
    still to be grown; or (), where all is done.
    """

    def __init__(self, course, point):
        self._course = course
        self._point = point
        self._growth = Growth(course.book.scheme)
        self._queue = []
        self._trail = []
        self._done = {}
        # The next rank of the places of joins; None if there are no more.
        self._rank = 0 if course.kind in ("left", "right") else None

    def cheapest(self):
        """The pieces of a cheapest way from a start to the point and up to the top; there has to be one."""
        if self._rank is None:
            for start in self._course.all_starts():
                self._enter(start, 0, None)
        return self._followed()

    def climbed(self, spot):
        """The pieces of a cheapest way to the top from (sort, rank, apart)."""
        self._rank = None
        self._push(0, spot, None, None)
        return self._followed()

    def grown(self, pieces):
        """The pair of a right shape and a deed, or of two right shapes, that has a way."""
        return self._growth.grown(self._course.kind, pieces)

    def _followed(self):
        while True:
            self._add_joins()
            keys, number = heappop(self._queue)
            state = self._trail[number][0]
            if state == ():
                return self._pieces_until(number)
            if state not in self._done:
                self._done[state] = True
                self._go_on(keys, number)

    def _add_joins(self):
        """Adds the starts of joins that could have fewer keys than all that waits."""
        while self._rank is not None:
            least = self._growth.least_from(self._rank)
            # Both sides have at least this rank.
            if least is None or (self._queue and self._queue[0][0] < 2 * least):
                break
            for start in self._course.joins_at(self._rank):
                self._enter(start, 0, None)
            self._rank = self._rank + 1

    def _go_on(self, keys, number):
        """Goes on from what has been reached with so many keys."""
        sort, rank, apart, *told = self._trail[number][0]
        if self._course.can_be_whole(sort, apart) and (not told or self._point.is_top(self._course, told[1])):
            self._push(keys, (), number, None)
        for name, index, above in self._course.nodes_over(sort, rank, apart):
            if told:
                self._enter((name, index, *told, above), keys, number)
            else:
                row = (name, index, 0, "", above)
                self._push(keys + self._growth.keys_of(row, {}), self._course.spot_of(row), number, (row, {}))

    def _enter(self, row, keys, before):
        """Does all that can be done at a row or a start."""
        site = self._course.site(row)
        for drawing in site.fitting():
            oddity = self._course.oddity_behind(drawing, row)
            if oddity is not None:
                case = case_of(drawing)
                self._push(keys + self._growth.keys_of(row, case), oddity, before, (row, case))
        for case in self._point.cases_at(site, self._growth):
            self._push(keys + self._growth.keys_of(row, case), self._course.spot_of(row), before, (row, case))

    def _push(self, keys, state, before, piece):
        heappush(self._queue, (keys, len(self._trail)))
        self._trail.append((state, before, piece))

    def _pieces_until(self, number):
        pieces = []
        while number is not None:
            _, before, piece = self._trail[number]
            if piece is not None:
                pieces.append(piece)
            number = before
        return pieces[::-1]
