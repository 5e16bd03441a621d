"""Trees with keys, each node of which is an object of its own."""


class Knot:
    """A node: the name of its form, its keys, and its children, None for an empty tree. It never changes."""

    def __init__(self, label, contents, limbs):
        self.label = label
        self.contents = contents
        self.limbs = limbs


class Grove:
    """A wood of trees with keys, in which one key is put or cut."""

    def __init__(self, key):
        self._key = key

    def node_of(self, name, contents, limbs):
        """A new node."""
        return Knot(name, contents, limbs)

    def name_of(self, knot):
        """The name of a node, None for an empty tree."""
        return None if knot is None else knot.label

    def limbs_of(self, knot):
        """The children of a node, none for an empty tree."""
        return () if knot is None else knot.limbs

    def contents_of(self, knot):
        """The keys of a node."""
        return () if knot is None else knot.contents

    def changed_key(self):
        """The key that is put or cut."""
        return self._key


def path_above(top, key):
    """The path to the gap directly above a key, or to the gap of a key that is not there."""
    path = []
    knot = top
    while knot is not None:
        index = len([other for other in knot.contents if other <= key])
        path.append(index)
        knot = knot.limbs[index]
    return tuple(path)


def last_key(top):
    """The greatest key of a tree that has keys."""
    knot = top
    while knot.limbs[-1] is not None:
        knot = knot.limbs[-1]
    return knot.contents[-1]


def keys_of(top):
    """The keys of a tree, ascending."""
    keys = []
    waiting = [top]
    while waiting:
        part = waiting.pop()
        if isinstance(part, Knot):
            waiting.append(part.limbs[-1])
            for index in reversed(range(len(part.contents))):
                waiting.append(part.contents[index])
                waiting.append(part.limbs[index])
        elif part is not None:
            keys.append(part)
    return tuple(keys)


def knots_of(top):
    """The list of all nodes of a tree."""
    knots = []
    waiting = [top]
    while waiting:
        knot = waiting.pop()
        if knot is not None:
            knots.append(knot)
            waiting.extend(list(knot.limbs))
    return knots


def height_of(top):
    """The height of a tree."""
    height = 0
    level = [knot for knot in (top,) if knot is not None]
    while level:
        height += 1
        level = [limb for knot in level for limb in knot.limbs if limb is not None]
    return height


def are_alike(one, other):
    """Whether two trees over one scheme have the same shape."""
    waiting = [(one, other)]
    while waiting:
        knot, twin = waiting.pop()
        if knot is None or twin is None:
            if knot is not None or twin is not None:
                return False
        elif knot.label != twin.label:
            return False
        else:
            waiting.extend([(limb, twin.limbs[index]) for index, limb in enumerate(knot.limbs)])
    return True


def rows_of(top):
    """The rows of a tree; equal subtrees have one row."""
    rows = []
    numbers = {}
    places = {}
    waiting = [knot for knot in (top,) if knot is not None]
    while waiting:
        knot = waiting[-1]
        missing = [limb for limb in knot.limbs if limb is not None and limb not in places]
        if missing:
            waiting.append(missing[0])
            continue
        waiting.pop()
        row = (knot.label, tuple([places.get(limb) for limb in knot.limbs]))
        if row not in numbers:
            numbers[row] = len(rows)
            rows.append(row)
        places[knot] = numbers[row]
    return tuple(rows)


def planted(rows, keys):
    """The top of a tree of new nodes with these rows and these keys."""
    gaps = []
    for _, children in rows:
        gaps.append(sum([1 if child is None else gaps[child] for child in children]))
    built = []
    # A row that is begun comes once more, marked as ready, behind its children.
    waiting = [(len(rows) - 1 if rows else None, 0, False)]
    while waiting:
        row, begin, is_ready = waiting.pop()
        if row is None:
            built.append(None)
            continue
        name, children = rows[row]
        ends = []
        for child in children:
            begin = begin + (1 if child is None else gaps[child])
            ends.append(begin)
        if is_ready:
            limbs = tuple(built[-len(children):])
            del built[-len(children):]
            built.append(Knot(name, tuple([keys[end - 1] for end in ends[:-1]]), limbs))
        else:
            waiting.append((row, ends[-1] - gaps[row], True))
            below = [(child, end - (1 if child is None else gaps[child]), False) for child, end in zip(children, ends)]
            waiting.extend(below[::-1])
    return built[0]
