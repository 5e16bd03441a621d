"""Points 0.17 to 0.19 and 14.2 done in the plainest way, for schemes that repeat soon."""

import itertools

from tests.naive import Plan


def sorts_by_rank(scheme, many):
    """The sets of the sorts that exist at so many ranks."""
    sorts = []
    for rank in range(many):
        sorts.append({scheme.bare} if rank == 0 else set())
        for _ in scheme.forms:
            sorts[rank] |= {form.sort_name for form in scheme.forms if stands(form, sorts, rank)}
    return sorts


def stands(form, sorts, rank):
    return all(rank >= step and sort in sorts[rank - step] for sort, step in form.children)


def turn_and_period(sorts):
    """The least period of the sorts, and the least turn for it, as far as they are known."""
    many = len(sorts)
    for period in range(1, many // 3):
        turn = 0
        for rank in range(many - period):
            if sorts[rank] != sorts[rank + period]:
                turn = rank + 1
        if turn < many // 2:
            return turn, period
    return None


class World:
    """What exists and is useful at the ranks of a scheme; all ranks up to a bound are walked one by one."""

    def __init__(self, scheme, many=360):
        self.scheme = scheme
        self.sorts = sorts_by_rank(scheme, many)
        self.turn, self.period = turn_and_period(self.sorts)
        self.forms = [[form.called for form in scheme.forms if stands(form, self.sorts, rank)]
                      for rank in range(many)]
        self.useful = {index: self.useful_by(index) for index in (None, 0, -1)}

    def base(self, rank):
        while rank >= self.turn + 12 + self.period:
            rank -= self.period
        return rank

    def bases(self):
        return range(self.turn + 12 + self.period)

    def children(self, form, index):
        pairs = list(enumerate(form.children))
        return pairs if index is None else [pairs[index]]

    def useful_by(self, index):
        useful = [set(self.scheme.tops) & sorts for sorts in self.sorts]
        changed = True
        while changed:
            changed = False
            for rank in reversed(range(len(useful))):
                for form in self.scheme.forms:
                    if form.called in self.forms[rank] and form.sort_name in useful[rank]:
                        for _, (sort, step) in self.children(form, index):
                            changed = changed or sort not in useful[rank - step]
                            useful[rank - step].add(sort)
        return useful

    def above(self, sort, rank, index):
        """All (form, index, rank) above such a child."""
        return [(form.called, at, rank + step) for form in self.scheme.forms
                for at, (name, step) in self.children(form, index)
                if name == sort and form.called in self.forms[rank + step]
                and form.sort_name in self.useful[index][rank + step]]

    def choices(self, sort, rank):
        found = [name for name in self.forms[rank] if self.scheme[name].sort_name == sort]
        return ["", *found] if (sort, rank) == (self.scheme.bare, 0) else found

    def tops_of(self, spot, depth):
        """All upper parts, so deep, of the sound trees with a spot: None, or [name, part, ..], or "?" below."""
        if depth == 0:
            return ["?"]
        found = []
        for name in self.choices(*spot):
            if name == "":
                found.append(None)
                continue
            parts = [self.tops_of((sort, spot[1] - step), depth - 1) for sort, step in self.scheme[name].children]
            found += [[name, *below] for below in itertools.product(*parts)]
        return found


class Closure:
    """The rows and the starts of a kind of deeds, found until there are no more."""

    def __init__(self, book, kind):
        self.book = book
        self.kind = kind
        self.world = World(book.scheme)
        self.index = {"put": None, "cut": None, "left": -1, "right": 0}[kind]
        self.plans = [Plan(drawing) for drawing in book]
        self.starts = set(self.all_starts())
        self.rows = set()
        waiting = list(self.starts)
        while waiting:
            for rows in self.leads(waiting.pop()).values():
                waiting += [row for row in rows if row not in self.rows]
                self.rows |= set(rows)

    def all_starts(self):
        scheme, world = self.book.scheme, self.world
        if self.kind == "put":
            return [("put",)]
        if self.kind == "cut":
            return [("cut", *node) for node in world.above(scheme.bare, 0, None)]
        found = []
        for rank, apart, sort, other in itertools.product(world.bases(), range(3), scheme.sorts, scheme.tops):
            if sort in world.sorts[rank] and other in world.sorts[rank + apart]:
                if self.parents_of_join(sort, rank, apart) or self.whole_join(sort, apart):
                    found.append(("join", sort, other, apart, rank) if self.kind == "left"
                                 else ("join", other, sort, -apart, rank))
        return found

    def parents_of_join(self, sort, rank, apart):
        return [node for node in self.world.above(sort, rank, self.index) if node[2] - rank > apart]

    def whole_join(self, sort, apart):
        return self.kind == "left" and apart == 0 and sort in self.book.scheme.tops

    def plans_at(self, row):
        if row[0] == "" and len(row) == 5:
            return [plan for plan in self.plans if plan.place == ("top", row[3])]
        place = row[:3] if len(row) == 4 else row[:4] if len(row) == 5 and isinstance(row[1], str) else row
        place = ("mend", *row[:4]) if len(row) == 5 and not isinstance(row[1], str) else place
        return [plan for plan in self.plans if plan.place == place]

    def beside(self, row):
        """The spots of what stands beside the odd child, by first indices; for a join of both sides."""
        if row[0] == "join" and isinstance(row[1], str):
            left, right = (row[4], row[4] + row[3]) if row[3] >= 0 else (row[4] - row[3], row[4])
            return {0: (row[1], left), 1: (row[2], right)}
        if row == ("put",) or row[0] == "":
            return {}
        name, odd = (row[1], row[2]) if len(row) == 4 else row[:2]
        return {index: (sort, row[-1] - step) for index, (sort, step) in enumerate(self.book.scheme[name].children)
                if index != odd}

    def scenes(self, row):
        """All that can stand beside the odd child, as deep as it is opened, with "odd" for this one."""
        spots = self.beside(row)
        paths = [path for plan in self.plans_at(row) for path in names_of(plan)]
        depth = max(map(len, paths), default=0)
        many = max(spots, default=-1) + 2
        return itertools.product(*[self.world.tops_of(spots[index], depth) if index in spots else ["odd"]
                                   for index in range(many)])

    def leads(self, row):
        if row[0] == "" and self.is_right_top(row):
            return {}
        plans = self.plans_at(row)
        if len(plans) > 0 and plans[0].kind not in ("put", "top"):
            spots = self.beside(row)
            plans = [plan for plan in plans
                     if all(self.can_fit(part, spots[index]) for index, part in plan.opened.items())]
        return {plan.line: tuple(sorted(set(self.rows_behind(plan, row)))) for plan in plans}

    def can_fit(self, part, spot):
        if part == ".":
            return True
        return part[0] in self.world.choices(*spot) and all(
            self.can_fit(below, (sort, spot[1] - step))
            for below, (sort, step) in zip(part[1:], self.book.scheme[part[0]].children))

    def rows_behind(self, plan, row):
        scheme, world, hand = self.book.scheme, self.world, plan.hand
        whole = [("", 0, 0, hand, 0)]
        if plan.kind == "top":
            return []
        if plan.kind == "join":
            sort, level = (row[1], 0) if self.kind == "left" else (row[2], row[3])
            parents = self.parents_of_join(sort, row[4], abs(row[3]))
            whole = whole if self.whole_join(sort, abs(row[3])) else []
        else:
            sort, level = (scheme.bare, 0) if plan.kind == "put" else (scheme[plan.place[1]].sort_name, 0)
            rank = 0 if plan.kind == "put" else row[-1]
            parents = world.above(sort, rank, self.index)
            whole = whole if sort in scheme.tops else []
        if plan.result == (sort, level):
            return whole if plan.kind == "put" else []
        return whole + [(name, index, plan.result[1] - level, hand, world.base(above))
                        for name, index, above in parents]

    def is_right_top(self, row):
        hand = row[3].split("(")
        return (hand[0] if len(hand) == 1 else self.book.scheme[hand[0]].sort_name) in self.book.scheme.tops

    def is_covered(self, row):
        if row == ("put",):
            return True
        if row[0] == "":
            return self.is_right_top(row) or len(self.plans_at(row)) > 0
        plans = self.plans_at(row)
        return all(any(shown(plan, scene) for plan in plans) for scene in self.scenes(row))

    def is_case(self, row, case):
        """Whether a dict of paths is a case for a row, by the words of stage 11."""
        if row == ("put",) or (row[0] == "" and self.is_right_top(row)):
            return False
        spots = {(index,): spot for index, spot in self.beside(row).items()}
        for path in sorted(case):
            if path not in spots or (case[path] or "") not in self.world.choices(*spots[path]):
                return False
            if case[path]:
                for index, (sort, step) in enumerate(self.book.scheme[case[path]].children):
                    spots[(*path, index)] = (sort, spots[path][1] - step)
        return all(any(path in case and case[path] != name for path, name in names_of(plan).items())
                   for plan in self.plans_at(row))


def shown(plan, scene):
    """Whether a drawing fits in a scene."""
    return all(shown_part(part, scene[index]) for index, part in plan.opened.items())


def shown_part(part, node):
    if part == ".":
        return True
    assert node != "?"
    return node is not None and node[0] == part[0] and all(map(shown_part, part[1:], node[1:]))


def names_of(plan):
    """The names that a drawing opens, by their paths."""
    found = {}

    def read(part, path):
        if part != ".":
            found[path] = part[0]
            for index, below in enumerate(part[1:]):
                read(below, (*path, index))

    for index, part in plan.opened.items():
        read(part, (index,))
    return found
