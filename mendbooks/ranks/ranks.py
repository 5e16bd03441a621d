"""The ranks of a scheme: what exists at them, what is useful there, and the least trees."""

from mendbooks.base.forms import Scheme
from mendbooks.base.words import is_count
from mendbooks.errors import InvalidNumber, InvalidScheme, InvalidShape, TooMany, UnknownName
from mendbooks.ranks.exist import Existence
from mendbooks.ranks.ladder import Ladder
from mendbooks.trees.forest import Forest
from mendbooks.trees.shapes import is_over, shape_of

MAX_TURN = 100
MAX_RANK = 400


class Ranks:
    """What the sound and the right trees over a scheme have at each rank."""

    def __init__(self, scheme):
        if not isinstance(scheme, Scheme):
            raise InvalidScheme("only a scheme has ranks")
        self._existence = existence_of(scheme)
        self._ladder = Ladder(self._existence)

    @property
    def scheme(self):
        """The scheme."""
        return self._existence.scheme

    @property
    def turn(self):
        """The least rank from which on the same sorts exist again and again."""
        return self._existence.turn

    @property
    def period(self):
        """The number of ranks after which they exist again."""
        return self._existence.period

    def base_of(self, rank):
        """The base of a rank."""
        _check_rank(rank)
        return self._existence.base_of(rank)

    def sorts_at(self, rank):
        """The sorts that exist at a rank, ascending."""
        _check_rank(rank)
        return self._existence.sorts_at(rank)

    def forms_at(self, rank):
        """The names of the forms that exist at a rank, ascending."""
        _check_rank(rank)
        return self._existence.forms_at(rank)

    def useful_at(self, rank):
        """The sorts that are useful at a rank, ascending."""
        _check_rank(rank)
        return self._ladder.useful_at(rank)

    def choices_at(self, sort, rank):
        """What can be the top of a sound tree with this sort and rank, "" for the empty tree."""
        self._check_spot(sort, rank)
        return self._existence.choices_at(sort, rank)

    def least(self, sort, rank):
        """The least number of keys of a sound tree with this sort and rank, None if there is none."""
        self._check_low_spot(sort, rank)
        return self._ladder.leasts.keys_at(sort, rank)

    def least_shape(self, sort, rank):
        """The sound shape with this sort and rank and as few keys; all its subtrees are such shapes, too."""
        self._check_low_spot(sort, rank)
        if self._ladder.leasts.keys_at(sort, rank) is None:
            return None
        forest = Forest()
        rows = self._ladder.leasts.planted(forest, [(sort, rank)])
        return shape_of(self.scheme, forest, rows[(sort, rank)])

    def around(self, sort, rank):
        """The least number of keys of a right tree outside of a subtree with this sort and rank, None without one."""
        self._check_low_spot(sort, rank)
        found = self._ladder.cheapest({(sort, rank): 0})
        return None if found is None else found[0]

    def hung(self, shape):
        """A right shape with as few keys as possible in which this sound one stands, and the path; None if none is."""
        if not is_over(self.scheme, shape) or shape.spot is None:
            raise InvalidShape("only a sound shape over the scheme stands in a right one")
        if shape.spot[1] > MAX_RANK:
            raise TooMany(MAX_RANK)
        found = self._ladder.cheapest({shape.spot: 0})
        if found is None:
            return None
        way = found[2]
        forest = Forest()
        top = self._ladder.climbed(forest, forest.top_of(shape.rows), way)
        return shape_of(self.scheme, forest, top), tuple([index for _, index, _ in way[::-1]])

    def __eq__(self, other):
        return isinstance(other, Ranks) and self.scheme == other.scheme

    def __str__(self):
        return f"ranks from {self.turn} on by {self.period}"

    def _check_spot(self, sort, rank):
        if sort not in self.scheme.sorts:
            raise UnknownName(sort)
        _check_rank(rank)

    def _check_low_spot(self, sort, rank):
        self._check_spot(sort, rank)
        if rank > MAX_RANK:
            raise TooMany(MAX_RANK)


def existence_of(scheme):
    """What exists at the ranks of a scheme that repeats soon enough."""
    return Existence(scheme, MAX_TURN)


def _check_rank(rank):
    if not is_count(rank):
        raise InvalidNumber(rank)
