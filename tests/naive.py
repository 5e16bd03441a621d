"""The document's words done in the plainest way, for small trees: what the package returns is compared with it.

A tree is None or a node [name, child, child, ..]; nodes are lists, so that each of them is an object of its own.
"""

import itertools
import re


class Fails(Exception):
    """A deed that fails, with its place."""

    def __init__(self, place):
        super().__init__(place)
        self.place = place


# Trees


def spot_of(scheme, tree):
    """The sort and the rank of a tree, None if it is not sound."""
    if tree is None:
        return scheme.bare, 0
    form = scheme[tree[0]]
    spots = [spot_of(scheme, child) for child in tree[1:]]
    if len(spots) != len(form) or None in spots or [sort for sort, _ in spots] != [sort for sort, _ in form.children]:
        return None
    ranks = {rank + step for (_, rank), (_, step) in zip(spots, form.children)}
    return (form.sort_name, ranks.pop()) if len(ranks) == 1 else None


def is_right(scheme, tree):
    spot = spot_of(scheme, tree)
    return spot is not None and spot[0] in scheme.tops


def keys_of(tree):
    return 0 if tree is None else len(tree) - 2 + sum(map(keys_of, tree[1:]))


def height_of(tree):
    return 0 if tree is None else 1 + max(map(height_of, tree[1:]))


def gaps_of(tree):
    """The paths to the gaps, from left to right."""
    if tree is None:
        return [()]
    return [(index, *path) for index, child in enumerate(tree[1:]) for path in gaps_of(child)]


def at(tree, path):
    for index in path:
        tree = tree[1 + index]
    return tree


def paths_of(tree):
    """All paths in a tree, to nodes and to gaps."""
    below = [] if tree is None else enumerate(tree[1:])
    return [(), *((index, *path) for index, child in below for path in paths_of(child))]


def exchanged(tree, path, other):
    """A tree in which another subtree stands at a path; nodes above it are new, all others are the same objects."""
    if path == ():
        return other
    child = exchanged(tree[1 + path[0]], path[1:], other)
    return [*tree[:1 + path[0]], child, *tree[2 + path[0]:]]


def frozen(tree):
    return None if tree is None else (tree[0], *map(frozen, tree[1:]))


def plain_rows(tree):
    """The plain rows of a tree: each different subtree where it is complete first."""
    rows = {}

    def read(node):
        if node is None:
            return None
        children = tuple([read(child) for child in node[1:]])
        return rows.setdefault((node[0], children), len(rows))

    read(tree)
    return tuple(rows)


def tree_of(rows, top=None):
    """The tree with these rows; each place in it has a node of its own."""
    if not rows:
        return None

    def build(index):
        return None if index is None else [rows[index][0], *map(build, rows[index][1])]

    return build(len(rows) - 1 if top is None else top)


def sound_trees(scheme, most):
    """For each number of keys up to this one, the list of all sound trees, made by force."""
    trees = [[None]]
    for keys in range(1, most + 1):
        found = []
        for form in scheme.forms:
            for parts in compositions(keys - len(form) + 1, len(form)):
                for children in itertools.product(*[trees[part] for part in parts]):
                    node = [form.called, *children]
                    if spot_of(scheme, node):
                        found.append(node)
        trees.append(found)
    return trees


def compositions(total, many):
    """All ways to write a number as a sum of so many numbers of at least 0."""
    if many == 1:
        return [(total,)] if total >= 0 else []
    return [(first, *rest) for first in range(total + 1) for rest in compositions(total - first, many - 1)]


def order_key(scheme, tree):
    """By which sound trees are ordered [8.1]."""
    if tree is None:
        return (0, 0)
    return (keys_of(tree), spot_of(scheme, tree)[1], tree[0], *(order_key(scheme, child) for child in tree[1:]))


# Drawings


def parsed(text):
    """A picture with all that can stand in it: a text, or [name with signs, part, part, ..]."""
    stack = [[]]
    for token in re.findall(r"[^() ]+|[()]", text):
        if token == "(":
            stack.append([stack[-1].pop()])
        elif token == ")":
            stack[-2].append(stack.pop())
        else:
            stack[-1].append(token)
    return stack[0]


def picture_of(text):
    return parsed(text)[0]


def split_line(line):
    """The kind, what stands ahead of `to`, and the second picture."""
    kind, *rest = parsed(line)
    return kind, (rest[:-2] if kind != "put" else []), rest[-1]


def without_signs(picture):
    """A picture without marks, differences and the like."""
    if isinstance(picture, str):
        return picture.split(":")[-1].lstrip("^")
    return [picture[0].split(":")[-1].lstrip("^"), *map(without_signs, picture[1:])]


def text_of(picture):
    if isinstance(picture, str):
        return picture
    return f"{picture[0]}({' '.join(map(text_of, picture[1:]))})"


def hand_of(picture, sort):
    """The hand of a second picture with marks."""
    def marked(part):
        if isinstance(part, str) or not part[0].startswith("^"):
            return "."
        return f"{part[0][1:]}({' '.join(map(marked, part[1:]))})"

    text = marked(picture)
    return sort if text == "." else text


class Plan:
    """What a drawing of the package tells, read again from its line.

    `opened` has the parts that are compared, by the index of the child, or of the side of a join.
    """

    def __init__(self, drawing):
        self.kind, self.ahead, second = split_line(drawing.line)
        self.line = drawing.line
        self.scheme = drawing.scheme
        second = [second, ".", "."] if self.kind == "put" else second
        self.second = without_signs(second)
        self.result = drawing.result
        self.hand = hand_of(second, drawing.result[0])
        self.place = self.read_place()
        self.opened = {}
        if self.kind in ("cut", "mend"):
            self.opened = {index: part for index, part in enumerate(self.ahead[0][1:]) if not is_odd(part)}
        if self.kind == "join":
            self.opened = {index: "." if isinstance(part, str) else part for index, part in enumerate(self.ahead[:2])}

    def read_place(self):
        if self.kind == "put":
            return ("put",)
        first = self.ahead[0]
        if self.kind == "top":
            return ("top", text_of(first))
        if self.kind == "join":
            sorts = [side if isinstance(side, str) else self.scheme[side[0]].sort_name for side in self.ahead[:2]]
            return ("join", *sorts, int(self.ahead[2]))
        heads = [part if isinstance(part, str) else part[0] for part in first[1:]]
        if self.kind == "cut":
            return ("cut", first[0], heads.index("x"))
        index = [head.startswith("!") for head in heads].index(True)
        number = heads[index][1:].split(":")[0]
        return ("mend", first[0], index, int(number), text_of(without_signs(first[1 + index])))

    def fits(self, node):
        """Whether a node has the names that the first picture opens, outside of the odd child."""
        return all(matches(part, node[1 + index]) for index, part in self.opened.items())

    def done(self, node):
        """The node rearranged; the second picture has new nodes."""
        if self.kind == "put":
            return grown(self.second, [None, None])
        holes = []
        collect(self.ahead[0], node, holes)
        return grown(self.second, holes)


def is_odd(part):
    return part == "x" or (part if isinstance(part, str) else part[0]).startswith("!")


def matches(part, node):
    if part == ".":
        return True
    return node is not None and node[0] == part[0] and all(map(matches, part[1:], node[1:]))


def collect(part, node, holes):
    """Adds what stands in the holes of a first picture."""
    if part == "x":
        return
    if isinstance(part, str):
        holes.append(node)
        return
    for below, child in zip(part[1:], node[1:]):
        collect(below, child, holes)


def grown(picture, holes):
    """A picture with these trees in its holes, which are used up."""
    if picture == ".":
        return holes.pop(0)
    return [picture[0], *[grown(part, holes) for part in picture[1:]]]


# Deeds


def done(book, tree, deed):
    """The new tree, the pairs of a path and a line, and the path of the last drawing; raises Fails."""
    plans = [Plan(drawing) for drawing in book]
    scheme = book.scheme
    kind, gap = deed
    path = gaps_of(tree)[gap]
    if kind == "put":
        plan = next(plan for plan in plans if plan.kind == "put")
        was = (scheme.bare, 0)
    else:
        path, index = path[:-1], path[-1]
        node = at(tree, path)
        plan = fitting(plans, ("cut", node[0], index), node)
        was = (scheme[node[0]].sort_name, 0)
    used = [(path, plan.line)]
    tree = exchanged(tree, path, plan.done(at(tree, path)))
    while path != () and plan.result != was:
        path, index = path[:-1], path[-1]
        node = at(tree, path)
        plan = fitting(plans, ("mend", node[0], index, plan.result[1], plan.hand), node)
        was = (scheme[node[0]].sort_name, 0)
        used.append((path, plan.line))
        tree = exchanged(tree, path, plan.done(node))
    if path == () and plan.result[0] not in scheme.tops:
        plan = fitting(plans, ("top", plan.hand), tree)
        used.append(((), plan.line))
        tree = plan.done(tree)
    return tree, tuple(used)


def fitting(plans, place, node):
    found = [plan for plan in plans if plan.place == place and plan.fits(node)]
    if not found:
        raise Fails(place)
    assert len(found) == 1
    return found[0]


def all_nodes(tree):
    return [] if tree is None else [tree, *(node for child in tree[1:] for node in all_nodes(child))]


def fresh_nodes(old, new):
    """How many nodes of the new tree are no nodes of the old one."""
    kept = {id(node) for node in all_nodes(old)}
    return sum(id(node) not in kept for node in all_nodes(new))
