"""The examples of the document, as they stand there."""

import unittest

from mendbooks.base.forms import Form, Scheme, mirrored_scheme
from mendbooks.base.pictures import Picture, are_apart, spot_over, spots_of
from mendbooks.base.words import is_count, is_integer, is_name, is_names

HEIGHTS = Scheme.from_lines("bare t", "tops t", "form even t t1 t1", "form left t t1 t2", "form right t t2 t1")


class Examples(unittest.TestCase):

    def test_words(self):
        self.assertEqual([is_integer(-7), is_count(True), is_name("Black"), is_names(("a", "b")), is_names(("b", "a"))],
                         [True, False, False, True, False])

    def test_forms(self):
        self.assertEqual(
            [str(HEIGHTS), HEIGHTS.sorts, HEIGHTS["left"].children, str(HEIGHTS["left"]), HEIGHTS.parents("t", 2)],
            ["scheme of 3 forms, 1 sorts", ("t",), (("t", 1), ("t", 2)), "form left t t1 t2",
             (("left", 1), ("right", 0))])
        self.assertIs(mirrored_scheme(HEIGHTS)["left"] == Form("left", "t", (("t", 2), ("t", 1))), True)

    def test_pictures(self):
        picture = Picture("left(left(. .) .)")
        self.assertEqual(
            [picture.holes, picture.levels, list(picture.paths()), picture[(0,)].text, picture.mirrored().text],
            [3, 2, [(), (0,)], "left(. .)", "left(. left(. .))"])
        self.assertEqual(
            [spots_of(HEIGHTS, picture), spot_over(HEIGHTS, Picture("even(. even(. .))"), spots_of(HEIGHTS, picture))],
            [(("t", -2), ("t", -3), ("t", -2)), None])
        self.assertEqual(
            [spot_over(HEIGHTS, Picture("even(. even(. .))"), (("t", -1), ("t", -2), ("t", -2))),
             are_apart(picture, Picture("left(even(. .) .)"))],
            [("t", 0), True])
