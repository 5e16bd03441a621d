"""Point 0.2: arguments are not changed, nothing is shared, and nothing that is made ever changes."""

import unittest

from mendbooks.base.forms import Form, Scheme, mirrored_scheme, renamed_scheme
from mendbooks.base.pictures import Picture, is_sound_picture, spot_over, spots_of
from tests.samples import HEIGHTS, REDBLACK, caught, odd_values

PICTURE = Picture("left(left(. .) even(. .))")


def state():
    """All that the samples tell of themselves."""
    return (HEIGHTS.lines, HEIGHTS.names, HEIGHTS.sorts, HEIGHTS.of_sort("t"), HEIGHTS.parents("t", 1),
            [(form.called, form.sort_name, form.children) for form in HEIGHTS.forms], REDBLACK.lines,
            PICTURE.text, PICTURE.names, PICTURE.holes, PICTURE.levels, list(PICTURE.paths()),
            [part.text for part in PICTURE.parts])


def calls(value):
    """Calls that take the value in each place in which it can stand."""
    left, leaf = HEIGHTS["left"], Picture("even(. .)")
    return [
        (Form, value, "t", left.children), (Form, "a", value, left.children), (Form, "a", "t", value),
        (Form.from_line, value), (Scheme, value, ("t",), (left,)), (Scheme, "t", value, (left,)),
        (Scheme, "t", ("t",), value), (Scheme.from_lines, value), (Scheme.from_lines, "bare t", value, value),
        (left.__getitem__, value), (HEIGHTS.__getitem__, value), (HEIGHTS.__contains__, value),
        (HEIGHTS.of_sort, value), (HEIGHTS.parents, value, 1), (HEIGHTS.parents, "t", value),
        (HEIGHTS.with_form, value), (HEIGHTS.without, value), (mirrored_scheme, value),
        (renamed_scheme, value, {}, {}), (renamed_scheme, HEIGHTS, value, {}),
        (renamed_scheme, HEIGHTS, {"t": "t"}, value), (Picture, value), (Picture.of, value, (leaf, leaf)),
        (Picture.of, "a", value), (PICTURE.__getitem__, value), (is_sound_picture, value, PICTURE),
        (is_sound_picture, HEIGHTS, value), (spots_of, value, PICTURE), (spots_of, HEIGHTS, value),
        (spot_over, value, leaf, (("t", 0),) * 2), (spot_over, HEIGHTS, value, (("t", 0),) * 2),
        (spot_over, HEIGHTS, leaf, value),
    ]


class Sharing(unittest.TestCase):

    def test_no_call_changes_anything(self):
        before = state()
        for value in odd_values():
            kept = repr(value)
            for call, *arguments in calls(value):
                caught(call, *arguments)
            self.assertEqual(repr(value), kept)
        self.assertEqual(state(), before)

    def test_sequences_that_are_returned_are_tuples(self):
        found = [HEIGHTS.tops, HEIGHTS.forms, HEIGHTS.names, HEIGHTS.sorts, HEIGHTS.lines, HEIGHTS.of_sort("t"),
                 HEIGHTS.parents("t", 1), HEIGHTS.parents("t", 1)[0], HEIGHTS.parents("t", 0), PICTURE.parts,
                 PICTURE.names, list(PICTURE.paths())[1], spots_of(HEIGHTS, PICTURE), spots_of(HEIGHTS, PICTURE)[0],
                 spot_over(HEIGHTS, PICTURE, spots_of(HEIGHTS, PICTURE)), HEIGHTS["left"].children, HEIGHTS["left"][0],
                 Form.from_line("form a t t1 t1").children, Scheme.from_lines(*HEIGHTS.lines).tops,
                 renamed_scheme(HEIGHTS, {"t": "s"}, {name: name for name in HEIGHTS.names}).tops]
        for value in found:
            self.assertIs(type(value), tuple)

    def test_dicts_of_new_names_are_not_shared(self):
        sorts = {"t": "s"}
        forms = {name: name for name in HEIGHTS.names}
        renamed = renamed_scheme(HEIGHTS, sorts, forms)
        lines = renamed.lines
        sorts["t"] = "r"
        forms.clear()
        self.assertEqual(renamed.lines, lines)

    def test_equal_calls_return_equal_results(self):
        self.assertEqual(state(), state())
        self.assertEqual(mirrored_scheme(HEIGHTS), mirrored_scheme(HEIGHTS))
        self.assertEqual(PICTURE.mirrored(), PICTURE.mirrored())
