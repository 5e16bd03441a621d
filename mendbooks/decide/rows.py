"""The rows and starts of tables as values: their forms, their places, and what stands there."""

from mendbooks.base.words import is_flat, is_index, is_integer
from mendbooks.books.drawings import MAX_DIFFERENCE
from mendbooks.books.sides import MAX_JOINED, side_of


def place_of(row):
    """The place at which a drawing is done at a row or a start."""
    if len(row) == 1:
        return row
    if len(row) == 4:
        return row[:3]
    if is_start_of_join(row):
        return row[:4]
    return ("top", row[3]) if row[0] == "" else ("mend", *row[:4])


def is_start_of_join(row):
    """Whether a row or a start is a start of joins."""
    return len(row) == 5 and isinstance(row[1], str)


def node_at(row):
    """The name, the index of the odd child and the rank of the node at a row or a start of cuts."""
    name, index = row[1:3] if len(row) == 4 else row[:2]
    return name, index, row[-1]


def side_ranks(difference, rank):
    """The ranks of the left and of the right side of a join whose place has this rank."""
    return rank - min(difference, 0), rank + max(difference, 0)


def spots_beside(scheme, row):
    """The spots of the subtrees that drawings can open at a row or a start, by their paths."""
    kind = place_of(row)[0]
    if kind == "join":
        left, right = side_ranks(row[3], row[4])
        return {(0,): (row[1], left), (1,): (row[2], right)}
    if kind in ("put", "top"):
        return {}
    name, odd, rank = node_at(row)
    return {(index,): (sort, rank - step) for index, (sort, step) in enumerate(scheme[name]) if index != odd}


def whole_row(hand):
    """The row for a whole tree."""
    return ("", 0, 0, hand, 0)


def is_row(scheme, existence, value):
    """Whether the value is a row over the scheme, useful or not."""
    if not is_flat(value) or len(value) != 5:
        return False
    name, index, difference, hand, rank = value
    side = side_of(scheme, hand) if isinstance(hand, str) else None
    if side is None or name == "":
        return side is not None and (index, difference, rank) == (0, 0, 0)
    if name not in scheme.names or not is_index(index, len(scheme[name])) or not _is_base(existence, rank):
        return False
    if not is_integer(difference) or abs(difference) > MAX_DIFFERENCE:
        return False
    return (difference != 0 or side[0] != scheme[name][index][0]) and name in existence.forms_at(rank)


def is_row_or_start(scheme, existence, value):
    """Whether the value has the form of a row or of a start over the scheme."""
    if not is_flat(value):
        return False
    if len(value) == 4:
        return _is_start_of_cut(scheme, existence, value)
    if len(value) != 5:
        return value == ("put",)
    if is_start_of_join(value):
        return _is_sound_start_of_join(existence, value)
    return is_row(scheme, existence, value)


def _is_start_of_cut(scheme, existence, value):
    kind, name, index, rank = value
    if kind != "cut" or name not in scheme.names or not is_index(index, len(scheme[name])):
        return False
    return scheme[name][index] == (scheme.bare, rank) and name in existence.forms_at(rank)


def _is_sound_start_of_join(existence, value):
    kind, sort, other, difference, rank = value
    if kind != "join" or not is_integer(difference) or abs(difference) > MAX_JOINED or not _is_base(existence, rank):
        return False
    left, right = side_ranks(difference, rank)
    return sort in existence.sorts_at(left) and other in existence.sorts_at(right)


def _is_base(existence, rank):
    return is_index(rank, existence.many_bases)
