"""How high right trees are."""

from mendbooks.base.forms import Scheme
from mendbooks.base.words import is_count, is_index
from mendbooks.errors import InvalidNumber, InvalidScheme, TooMany
from mendbooks.ranks.ranks import existence_of
from mendbooks.ranks.towers import Crowns, Towers
from mendbooks.trees.forest import Forest
from mendbooks.trees.shapes import shape_of

MAX_HEIGHT = 100


def least_keys(scheme, height):
    """The least number of keys of a right tree that is at least so high, None if there is none."""
    _check_scheme(scheme)
    _check_height(height)
    towers = Towers(scheme)
    for _ in range(height):
        towers.rise()
    return towers.least_keys(height)


def most_keys(scheme, height):
    """The greatest number of keys of a right tree that is at most so high."""
    _check_scheme(scheme)
    _check_height(height)
    # Nothing here rests on the ranks, but the same schemes are refused everywhere.
    existence_of(scheme)
    crowns = Crowns(scheme)
    for _ in range(height):
        crowns.rise()
    return crowns.most_keys()


def greatest_height(scheme, keys):
    """The greatest height of right trees with at most so many keys."""
    _check_scheme(scheme)
    _check_keys(keys)
    return _risen(Towers(scheme), keys)


def least_height(scheme, keys):
    """The least height of right trees with at least so many keys, None if none at most MAX_HEIGHT high has so many."""
    _check_scheme(scheme)
    _check_keys(keys)
    existence_of(scheme)
    crowns = Crowns(scheme)
    for height in range(MAX_HEIGHT + 1):
        if crowns.most_keys() >= keys:
            return height
        crowns.rise()
    return None


def tall_tree(scheme, keys):
    """A right shape with at most so many keys and the greatest height."""
    _check_scheme(scheme)
    _check_keys(keys)
    towers = Towers(scheme)
    height = _risen(towers, keys)
    forest = Forest()
    return shape_of(scheme, forest, towers.planted(forest, height))


def _risen(towers, keys):
    """The greatest height that towers reach with so many keys; they rise above it."""
    for height in range(MAX_HEIGHT + 1):
        towers.rise()
        least = towers.least_keys(height + 1)
        if least is None or least > keys:
            return height
    raise TooMany(MAX_HEIGHT)


def _check_scheme(scheme):
    if not isinstance(scheme, Scheme):
        raise InvalidScheme("heights are those of trees over a scheme")


def _check_height(height):
    if not is_index(height, MAX_HEIGHT + 1):
        raise InvalidNumber(height)


def _check_keys(keys):
    if not is_count(keys):
        raise InvalidNumber(keys)
