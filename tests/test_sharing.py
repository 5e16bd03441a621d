"""Point 0.2: arguments are not changed, nothing is shared, and nothing that is made ever changes."""

import unittest

from mendbooks.base.forms import Form, Scheme, mirrored_scheme, renamed_scheme
from mendbooks.base.pictures import Picture, is_sound_picture, spot_over, spots_of
from mendbooks.books.books import Book, choice, mirrored_book, renamed_book
from mendbooks.books.drawings import Drawing, clash
from mendbooks.decide.tables import Table, beside, is_beside
from mendbooks.mend.deeds import cut, failing_place, fresh_nodes, is_deed, put, steps
from mendbooks.ranks.counts import count_right, count_sound, each_right, number_of, right_at
from mendbooks.ranks.heights import greatest_height, least_height, least_keys, most_keys, tall_tree
from mendbooks.ranks.ranks import Ranks
from mendbooks.trees.shapes import Shape
from tests.books import REDS
from tests.samples import HEIGHTS, REDBLACK, caught, odd_values

PICTURE = Picture("left(left(. .) even(. .))")
MEND = REDS.drawings[-2]
SHAPE = Shape(REDS.scheme, (("red", (None, None)), ("rr", (0, 0))))
RANKS = Ranks(REDS.scheme)
TABLE = Table(REDS, "put")
ROW = ("rb", 0, 0, "red(. .)", 4)


def state():
    """All that the samples tell of themselves."""
    return (HEIGHTS.lines, HEIGHTS.names, HEIGHTS.sorts, HEIGHTS.of_sort("t"), HEIGHTS.parents("t", 1),
            [(form.called, form.sort_name, form.children) for form in HEIGHTS.forms], REDBLACK.lines,
            PICTURE.text, PICTURE.names, PICTURE.holes, PICTURE.levels, list(PICTURE.paths()),
            [part.text for part in PICTURE.parts], REDS.lines, REDS.places, MEND.line, MEND.place, MEND.opened,
            MEND.hand,
            SHAPE.rows, SHAPE.size, SHAPE.spot, RANKS.turn, [RANKS.least("r", rank) for rank in range(9)],
            [RANKS.useful_at(rank) for rank in range(9)], TABLE.rows, TABLE.starts, TABLE.leads(TABLE.rows[3]),
            TABLE.open_rows, TABLE.open_starts)


def calls(value):
    """Calls that take the value in each place in which it can stand."""
    left, leaf = HEIGHTS["left"], Picture("even(. .)")
    return [
        (Form, value, "t", left.children), (Form, "a", value, left.children), (Form, "a", "t", value),
        (Form.from_line, value), (Scheme, value, ("t",), (left,)), (Scheme, "t", value, (left,)),
        (Scheme, "t", ("t",), value), (Scheme.from_lines, value), (Scheme.from_lines, "bare t", value, value),
        (left.__getitem__, value), (HEIGHTS.__getitem__, value), (HEIGHTS.__contains__, value),
        (HEIGHTS.of_sort, value), (HEIGHTS.parents, value, 1), (HEIGHTS.parents, "t", value),
        (HEIGHTS.with_form, value), (HEIGHTS.without, value), (mirrored_scheme, value),
        (renamed_scheme, value, {}, {}), (renamed_scheme, HEIGHTS, value, {}),
        (renamed_scheme, HEIGHTS, {"t": "t"}, value), (Picture, value), (Picture.of, value, (leaf, leaf)),
        (Picture.of, "a", value), (PICTURE.__getitem__, value), (is_sound_picture, value, PICTURE),
        (is_sound_picture, HEIGHTS, value), (spots_of, value, PICTURE), (spots_of, HEIGHTS, value),
        (spot_over, value, leaf, (("t", 0),) * 2), (spot_over, HEIGHTS, value, (("t", 0),) * 2),
        (spot_over, HEIGHTS, leaf, value), *drawn(value), *ranked(value), *decided(value),
    ]


def drawn(value):
    return [
        (Drawing, value, "put ^red"), (Drawing, REDS.scheme, value), (MEND.mirrored, value), (clash, value, MEND),
        (clash, MEND, value), (Book, value, REDS.drawings), (Book, REDS.scheme, value), (Book.from_lines, value),
        (Book.from_lines, *REDS.lines, value), (REDS.at, value), (REDS.__getitem__, value), (REDS.__contains__, value),
        (REDS.with_drawing, value), (REDS.without, value), (mirrored_book, value), (renamed_book, value, {}, {}),
        (renamed_book, REDS, value, value), (choice, value, ("put",), {}), (choice, REDS, value, {}),
        (choice, REDS, ("put",), value), (Shape, value, ()), (Shape, REDS.scheme, value),
        (Shape.node, value, "red", (SHAPE, SHAPE)), (Shape.node, REDS.scheme, value, (SHAPE, SHAPE)),
        (Shape.node, REDS.scheme, "red", value), (SHAPE.path_to, value), (SHAPE.below, value), (SHAPE.name_at, value),
        (SHAPE.replaced, value, SHAPE), (SHAPE.replaced, (0,), value),
    ]


def ranked(value):
    return [
        (Ranks, value), (RANKS.base_of, value), (RANKS.sorts_at, value), (RANKS.forms_at, value),
        (RANKS.useful_at, value),
        (RANKS.choices_at, value, 1), (RANKS.choices_at, "r", value), (RANKS.least, value, 1),
        (RANKS.least, "r", value),
        (RANKS.least_shape, "r", value), (RANKS.around, "r", value), (RANKS.around, value, 1), (RANKS.hung, value),
        (count_sound, value, "b", 1, 1), (count_sound, REDS.scheme, value, value, value),
        (count_right, REDS.scheme, value),
        (lambda: list(each_right(value, 2)),), (right_at, REDS.scheme, 3, value), (number_of, value),
        (least_keys, value, 3), (most_keys, REDS.scheme, value), (greatest_height, value, 3), (least_height, value, 3),
        (tall_tree, value, 3),
    ]


def decided(value):
    return [
        (is_deed, value, ("put", 0)), (is_deed, SHAPE, value), (put, value, SHAPE, 0), (put, REDS, value, 0),
        (put, REDS, SHAPE, value), (cut, REDS, SHAPE, value), (steps, REDS, SHAPE, value), (steps, value, value, value),
        (failing_place, REDS, SHAPE, value), (fresh_nodes, REDS, SHAPE, value), (Table, value, "put"),
        (Table, REDS, value),
        (TABLE.leads, value), (TABLE.way, value), (TABLE.__contains__, value), (beside, value, ROW),
        (beside, REDS, value),
        (is_beside, REDS, value, {}), (is_beside, REDS, ROW, value),
    ]


class Sharing(unittest.TestCase):

    def test_no_call_changes_anything(self):
        before = state()
        for value in odd_values():
            kept = repr(value)
            for call, *arguments in calls(value):
                caught(call, *arguments)
            self.assertEqual(repr(value), kept)
        self.assertEqual(state(), before)

    def test_sequences_that_are_returned_are_tuples(self):
        found = [HEIGHTS.tops, HEIGHTS.forms, HEIGHTS.names, HEIGHTS.sorts, HEIGHTS.lines, HEIGHTS.of_sort("t"),
                 HEIGHTS.parents("t", 1), HEIGHTS.parents("t", 1)[0], HEIGHTS.parents("t", 0), PICTURE.parts,
                 PICTURE.names, list(PICTURE.paths())[1], spots_of(HEIGHTS, PICTURE), spots_of(HEIGHTS, PICTURE)[0],
                 spot_over(HEIGHTS, PICTURE, spots_of(HEIGHTS, PICTURE)), HEIGHTS["left"].children, HEIGHTS["left"][0],
                 Form.from_line("form a t t1 t1").children, Scheme.from_lines(*HEIGHTS.lines).tops,
                 renamed_scheme(HEIGHTS, {"t": "s"}, {name: name for name in HEIGHTS.names}).tops]
        for value in found:
            self.assertIs(type(value), tuple)

    def test_dicts_of_new_names_are_not_shared(self):
        sorts = {"t": "s"}
        forms = {name: name for name in HEIGHTS.names}
        renamed = renamed_scheme(HEIGHTS, sorts, forms)
        lines = renamed.lines
        sorts["t"] = "r"
        forms.clear()
        self.assertEqual(renamed.lines, lines)

    def test_sequences_of_later_modules_are_tuples(self):
        found = [REDS.drawings, REDS.lines, REDS.places, REDS.places[0], REDS.at(MEND.place), REDS.at(None), MEND.place,
                 MEND.result, list(MEND.opened)[0], SHAPE.rows, SHAPE.rows[1], SHAPE.rows[1][1], SHAPE.spot,
                 SHAPE.path_to(2), RANKS.sorts_at(3), RANKS.forms_at(3), RANKS.useful_at(3), RANKS.choices_at("b", 0),
                 RANKS.choices_at("b", 99), RANKS.choices_at("r", 0), RANKS.hung(SHAPE), RANKS.hung(SHAPE)[1],
                 steps(REDS, SHAPE, ("put", 0)), steps(REDS, SHAPE, ("put", 0))[0],
                 steps(REDS, SHAPE, ("put", 0))[0][0],
                 failing_place(REDS, SHAPE, ("cut", 0)), TABLE.rows, TABLE.rows[1], TABLE.starts, TABLE.open_rows,
                 TABLE.open_starts, TABLE.way(TABLE.rows[1]), list(TABLE.leads(TABLE.rows[1]).values())[0]]
        for value in found:
            self.assertIs(type(value), tuple)

    def test_dicts_that_are_returned_can_be_changed(self):
        row = TABLE.rows[3]
        case = beside(REDS.without("mend rb(. !+0:red(. .)) to rr(. red(. .))"), ("rb", 1, 0, "red(. .)", 4))
        for told in (MEND.opened, TABLE.leads(row), TABLE.leads(("put",)), case):
            told.clear()
            told[(0,)] = "nothing"
        self.assertEqual(MEND.opened, {(0,): "red"})
        self.assertEqual(len(TABLE.leads(row)), 1)

    def test_arguments_that_change_later(self):
        opened = {(0,): "red"}
        found = choice(REDS, MEND.place, opened)
        opened.clear()
        self.assertEqual((found, choice(REDS, MEND.place, {(0,): "red"})), (MEND, MEND))

    def test_equal_calls_return_equal_results(self):
        self.assertEqual(RANKS.hung(SHAPE), RANKS.hung(SHAPE))
        self.assertEqual(Ranks(HEIGHTS).least_shape("t", 30), Ranks(HEIGHTS).least_shape("t", 30))
        self.assertEqual(tall_tree(HEIGHTS, 1000), tall_tree(HEIGHTS, 1000))
        self.assertEqual(state(), state())
        self.assertEqual(mirrored_scheme(HEIGHTS), mirrored_scheme(HEIGHTS))
        self.assertEqual(PICTURE.mirrored(), PICTURE.mirrored())
