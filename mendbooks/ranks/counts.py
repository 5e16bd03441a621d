"""How many trees there are, and all of them in their order."""

from mendbooks.base.forms import Scheme
from mendbooks.base.words import is_index
from mendbooks.errors import InvalidNumber, InvalidScheme, InvalidShape, TooMany, UnknownName
from mendbooks.ranks.census import Census
from mendbooks.ranks.ranks import MAX_RANK
from mendbooks.trees.forest import Forest
from mendbooks.trees.shapes import Shape, shape_of

MAX_COUNTED = 40


def count_sound(scheme, sort, rank, keys):
    """How many sound trees have this sort, this rank and so many keys."""
    if not isinstance(scheme, Scheme):
        raise InvalidScheme("trees are counted over a scheme")
    if sort not in scheme.sorts:
        raise UnknownName(sort)
    if not is_index(rank, MAX_RANK + 1):
        raise InvalidNumber(rank)
    _check_keys(keys)
    return Census(scheme, keys).many_at(sort, rank, keys)


def count_right(scheme, keys):
    """How many right trees have so many keys."""
    return _census_of(scheme, keys).many_right(keys)


def each_right(scheme, keys):
    """All right shapes with so many keys, in their order."""
    census = _census_of(scheme, keys)
    for number in range(census.many_right(keys)):
        forest = Forest()
        yield shape_of(scheme, forest, census.right_tree(forest, keys, number))


def right_at(scheme, keys, number):
    """The right shape with this number among those with so many keys."""
    census = _census_of(scheme, keys)
    if not is_index(number, census.many_right(keys)):
        raise InvalidNumber(number)
    forest = Forest()
    return shape_of(scheme, forest, census.right_tree(forest, keys, number))


def number_of(shape):
    """The number of a right shape among those with as many keys."""
    if not isinstance(shape, Shape) or not shape.is_right:
        raise InvalidShape("only a right shape has a number")
    if shape.size > MAX_COUNTED:
        raise TooMany(MAX_COUNTED)
    return Census(shape.scheme, shape.size).number_of(shape)


def _census_of(scheme, keys):
    if not isinstance(scheme, Scheme):
        raise InvalidScheme("trees are counted over a scheme")
    _check_keys(keys)
    return Census(scheme, keys)


def _check_keys(keys):
    if not is_index(keys, MAX_COUNTED + 1):
        raise InvalidNumber(keys)
