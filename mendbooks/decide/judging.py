"""Whether papers are what they should be, whoever made them."""

from mendbooks.mend.deeds import failing_place, is_deed
from mendbooks.mend.joins import failing_join
from mendbooks.trees.shapes import right_shape_of


def is_good_rows(course, value):
    """Whether the value is the rows of a good paper for the kind of a course."""
    if not isinstance(value, tuple) or not all([course.is_row(row) for row in value]):
        return False
    if not all([low < high for low, high in zip(value, value[1:])]):
        return False
    told = {row: True for row in value}
    for row in (*course.all_starts(), *value):
        if not course.site(row).is_covered() or not all([other in told for other in course.rows_after(row)]):
            return False
    return True


def is_bad_paper(book, kind, value):
    """Whether a tuple is a bad paper for a kind of deeds."""
    if len(value) != 3 or value[0] != "bad":
        return False
    _, rows, other = value
    shape = right_shape_of(book.scheme, rows)
    if shape is None:
        return False
    if kind in ("put", "cut"):
        return is_deed(shape, other) and other[0] == kind and failing_place(book, shape, other) is not None
    twin = right_shape_of(book.scheme, other)
    if twin is None:
        return False
    told, failing = failing_join(book, shape, twin)
    return told == kind and failing is not None
