"""Ways through tables: tuples of a start and of rows, each of which leads on to the next one."""

from mendbooks.base.words import is_flat
from mendbooks.decide.cases import case_of
from mendbooks.decide.chase import Chase


def is_way(table, value):
    """Whether the value is a way through a table, of any length."""
    if not isinstance(value, tuple) or not value or not all([is_flat(row) for row in value]):
        return False
    if value[0] not in table.starts:
        return False
    for before, row in zip(value, value[1:]):
        # Nothing leads on from what is no row, so all others have to be looked at first.
        if row not in table.course.rows_after(before):
            return False
    return True


def realized(course, way):
    """A right shape and a deed, or two right shapes, whose mending goes along a way."""
    pieces = []
    row = way[0]
    rank = course.spot_of(row)[1]
    for number, base in enumerate(way):
        if base[0] == "":
            return Chase(course, None).grown(pieces)
        if number > 0:
            name, index = base[:2]
            rank = rank + course.book.scheme[name][index][1]
            row = (*base[:4], rank)
        pieces.append((row, _case_along(course, row, way[number:number + 2])))
    chase = Chase(course, None)
    pieces.extend(chase.climbed(course.spot_of(row)))
    return chase.grown(pieces)


def _case_along(course, row, way):
    """A case at a row with its own rank in which the first part of a way leads on to the second one, if there is one.

    Behind the last part anything can follow, but a drawing is done there, too, if some drawing can.
    """
    leads = course.leads(way[0])
    for drawing in course.site(row).fitting():
        if len(way) == 1 or way[1] in leads[drawing.line]:
            return case_of(drawing)
    return {}
