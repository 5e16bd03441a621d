"""Joins and splits of right trees in a wood."""

from mendbooks.errors import NoMend
from mendbooks.mend.mending import Mending
from mendbooks.mend.woods import hand_of_form, rearranged, way_along


class Seams:
    """How trees of one wood are joined around keys, raised and split."""

    def __init__(self, book, wood):
        self._book = book
        self._wood = wood
        # The ranks of all sound nodes that have been asked for.
        self._ranks = {None: 0}

    def rank_of(self, node):
        """The rank of a sound tree."""
        below = []
        while node not in self._ranks:
            below.append(node)
            node = self._wood.limbs_of(node)[0]
        rank = self._ranks[node]
        for upper in below[::-1]:
            rank = rank + self._step_at(upper, 0)
            self._ranks[upper] = rank
        return rank

    def tried(self, left, right, key):
        """The mending of a join of two right trees around a key, also of one that fails."""
        ranks = (self.rank_of(left), self.rank_of(right))
        is_left = ranks[0] >= ranks[1]
        tree, other = (left, right) if is_left else (right, left)
        path, rank = self._path_to_place(tree, max(ranks), min(ranks), -1 if is_left else 0)
        mending = Mending(self._book, self._wood, tree, path)
        # Only the place has changed its rank; the other side is the whole other tree.
        difference = ranks[1] - rank if is_left else rank - ranks[0]
        mending.unite(other, key, difference, is_left)
        return mending

    def joined(self, left, right, key):
        """The top of two right trees that are joined around a key."""
        mending = self.tried(left, right, key)
        if mending.failing is not None:
            raise NoMend(mending.failing)
        return mending.left_top()

    def raised(self, node):
        """The top of the right tree to which a sound one is raised."""
        name = self._wood.name_of(node)
        if name is None or self._book.scheme[name].sort_name in self._book.scheme.tops:
            return node
        place = ("top", hand_of_form(self._book.scheme[name]))
        drawings = self._book.at(place)
        if not drawings:
            raise NoMend(place)
        return rearranged(self._wood, node, drawings[0])

    def split(self, top, path, at):
        """The tops of the parts of a right tree on both sides of the key with this number in the node at a path.

        Without a number the path leads to a gap, and the tree is split there.
        """
        way = way_along(self._wood, top, path)
        left = None
        right = None
        if at is not None:
            limbs = self._wood.limbs_of(way[-1])
            contents = self._wood.contents_of(way[-1])
            left = self._gathered(limbs[:at + 1], contents[:at])
            right = self._gathered(limbs[at + 1:], contents[at + 1:])
        for depth in reversed(range(len(path))):
            index = path[depth]
            limbs = self._wood.limbs_of(way[depth])
            contents = self._wood.contents_of(way[depth])
            if index > 0:
                ahead = self._gathered(limbs[:index], contents[:index - 1])
                left = self.joined(ahead, left, contents[index - 1])
            if index + 1 < len(limbs):
                behind = self._gathered(limbs[index + 1:], contents[index + 1:])
                right = self.joined(right, behind, contents[index])
        return left, right

    def _gathered(self, limbs, contents):
        """The top of neighbouring children that are raised and joined around the keys between them."""
        top = self.raised(limbs[0])
        for limb, key in zip(limbs[1:], contents):
            risen = self.raised(limb)
            top = self.joined(top, risen, key)
        return top

    def _path_to_place(self, node, rank, bound, index):
        """The path along children with this index to the first subtree whose rank is not above a bound, and its rank.

        The index is 0 or -1, for first or for last children.
        """
        path = []
        while rank > bound:
            limbs = self._wood.limbs_of(node)
            rank = rank - self._step_at(node, index)
            node = limbs[index]
            path.append(index + len(limbs) if index < 0 else index)
        return tuple(path), rank

    def _step_at(self, node, index):
        return self._book.scheme[self._wood.name_of(node)].children[index][1]
