"""Points 13.1 and 13.2 done in the plainest way, with the trees and plans of `naive`."""

from tests.naive import Plan, at, collect, done, exchanged, fitting, grown, keys_of, spot_of


def joined(book, left, right):
    """The new tree, the pairs of a path and a line, and the kind of a join; raises Fails."""
    scheme = book.scheme
    plans = [Plan(drawing) for drawing in book]
    ranks = [spot_of(scheme, tree)[1] for tree in (left, right)]
    kind = "left" if ranks[0] >= ranks[1] else "right"
    tree, bound = (left, ranks[1]) if kind == "left" else (right, ranks[0])
    path = ()
    while spot_of(scheme, at(tree, path))[1] > bound:
        path += (len(at(tree, path)) - 2,) if kind == "left" else (0,)
    sides = (at(tree, path), right) if kind == "left" else (left, at(tree, path))
    spots = [spot_of(scheme, side) for side in sides]
    difference = spots[1][1] - spots[0][1]
    assert -2 <= difference <= 2
    plan = fitting(plans, ("join", spots[0][0], spots[1][0], difference), ["", *sides])
    holes = []
    for part, side in zip(plan.ahead, sides):
        if isinstance(part, str):
            holes.append(side)
        else:
            collect(part, side, holes)
    used = [(path, plan.line)]
    tree = exchanged(tree, path, grown(plan.second, holes))
    was = (spots[0][0], 0) if kind == "left" else (spots[1][0], difference)
    while path != () and plan.result != was:
        path, index = path[:-1], path[-1]
        node = at(tree, path)
        plan = fitting(plans, ("mend", node[0], index, plan.result[1] - was[1], plan.hand), node)
        was = (scheme[node[0]].sort_name, 0)
        used.append((path, plan.line))
        tree = exchanged(tree, path, plan.done(node))
    if path == () and plan.result[0] not in scheme.tops:
        plan = fitting(plans, ("top", plan.hand), tree)
        used.append(((), plan.line))
        tree = plan.done(tree)
    return tree, tuple(used), kind


def join_kind(book, left, right):
    return "left" if spot_of(book.scheme, left)[1] >= spot_of(book.scheme, right)[1] else "right"


def raised(book, tree):
    """A sound tree as a right one; raises Fails."""
    if spot_of(book.scheme, tree)[0] in book.scheme.tops:
        return tree
    hand = f"{tree[0]}({' '.join('.' for _ in tree[1:])})"
    return fitting([Plan(drawing) for drawing in book], ("top", hand), tree).done(tree)


def split(book, tree, number):
    """The two parts of a right tree at a key; raises Fails."""
    sizes = [keys_of(child) for child in tree[1:]]
    index = 0
    while number > sizes[index]:
        number -= sizes[index] + 1
        index += 1
    if number == sizes[index] and index + 1 < len(sizes):
        return gathered(book, tree[1:index + 2]), gathered(book, tree[index + 2:])
    left, right = split(book, tree[1 + index], number)
    if index > 0:
        left = joined(book, gathered(book, tree[1:1 + index]), left)[0]
    if index + 1 < len(sizes):
        right = joined(book, right, gathered(book, tree[index + 2:]))[0]
    return left, right


def gathered(book, children):
    whole = raised(book, children[0])
    for child in children[1:]:
        child = raised(book, child)
        whole = joined(book, whole, child)[0]
    return whole



def split_at_gap(book, tree, gap):
    """The two parts of a right tree at a gap, without a key there; raises Fails."""
    if tree is None:
        return None, None
    index = 0
    while gap > keys_of(tree[1 + index]):
        gap -= keys_of(tree[1 + index]) + 1
        index += 1
    left, right = split_at_gap(book, tree[1 + index], gap)
    if index > 0:
        left = joined(book, gathered(book, tree[1:1 + index]), left)[0]
    if index + 2 < len(tree):
        right = joined(book, right, gathered(book, tree[index + 2:]))[0]
    return left, right


def merged(book, one, other, is_union):
    """Point 16.2 for two pairs of a tree and its keys; raises Fails."""
    (tree, keys), (twin, others) = one, other
    if tree is None:
        return other if is_union else (None, ())
    if twin is None:
        return one
    number = keys_of(tree[1])
    key = keys[number]
    left, right = split(book, tree, number)
    below, above = [k for k in others if k < key], [k for k in others if k > key]
    parts = split(book, twin, len(below)) if key in others else split_at_gap(book, twin, len(below))
    left, low = merged(book, (left, keys[:number]), (parts[0], tuple(below)), is_union)
    right, high = merged(book, (right, keys[number + 1:]), (parts[1], tuple(above)), is_union)
    if is_union or key not in others:
        return joined(book, left, right)[0], (*low, key, *high)
    if left is None:
        return right, high
    left, _ = done(book, left, ("cut", len(low)))
    return joined(book, left, right)[0], (*low, *high)
