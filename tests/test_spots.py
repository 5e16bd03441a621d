"""Points 0.10, 0.11 and the third stage: sound pictures, and pictures that hold."""

import itertools

from mendbooks.base.pictures import Picture, is_sound_picture, spot_over, spots_of
from mendbooks.base.forms import Scheme
from mendbooks.errors import InvalidOperation, InvalidPicture, InvalidScheme
from tests.cases import Case
from tests.samples import HEIGHTS, LONGEST, REDBLACK, TOO_LONG, TWOTHREE, odd_values

LEVEL = ("t", 0)


def sound_texts(scheme, levels):
    """The texts of all sound pictures with a name, of at most so many levels."""
    return [text for name in scheme.names for text in sound_below(scheme, name, levels)]


def sound_below(scheme, name, levels):
    if levels == 0:
        return []
    choices = [[".", *(text for below in scheme.of_sort(sort) for text in sound_below(scheme, below, levels - 1))]
               for sort, _ in scheme[name].children]
    return [f"{name}({' '.join(parts)})" for parts in itertools.product(*choices)]


def slow_spot(scheme, picture, spots):
    """The spot over the spots, with the names of the picture taken from the last one to the first one."""
    stack, rest = [], list(spots)
    for token in reversed(picture.text.replace("(", " ").replace(")", "").split(" ")):
        if token == ".":
            stack.append(rest.pop())
            continue
        form = scheme[token]
        children = [stack.pop() for _ in form]
        told = {spot[1] + step if spot and spot[0] == sort else None for spot, (sort, step) in zip(children, form)}
        stack.append((form.sort_name, told.pop()) if len(told) == 1 and None not in told else None)
    return stack[0]


class Sound(Case):

    def test_sound_pictures(self):
        for scheme, text in ((HEIGHTS, "even(. .)"), (HEIGHTS, "left(left(. .) even(. right(. .)))"),
                             (TWOTHREE, "three(two(. .) . three(. . .))"), (REDBLACK, "black(mixed(red(. .) .) .)"),
                             (REDBLACK, "wide(black(. .) red(. .) mixed(. .) .)")):
            self.assertIs(is_sound_picture(scheme, Picture(text)), True, text)

    def test_pictures_that_are_not_sound(self):
        for scheme, text in ((HEIGHTS, "."), (HEIGHTS, "two(. .)"), (HEIGHTS, "t(. .)"), (HEIGHTS, "even(. . .)"),
                             (HEIGHTS, "even(. two(. .))"), (HEIGHTS, "even(. left(. . .))"), (TWOTHREE, "three(. .)"),
                             (TWOTHREE, "three(. . . .)"), (TWOTHREE, "two(. two(two(. .) three(. .)))"),
                             (REDBLACK, "black(red(. .) .)"), (REDBLACK, "black(. red(. .))"),
                             (REDBLACK, "black(. black(. .))"), (REDBLACK, "mixed(. red(. .))"),
                             (REDBLACK, "black(. mixed(black(. .) .))"), (REDBLACK, "wide(. . . red(. .))"),
                             (REDBLACK, "red(wide(. . . mixed(. .)) .)")):
            self.assertIs(is_sound_picture(scheme, Picture(text)), False, text)

    def test_every_value(self):
        for value in odd_values():
            right = isinstance(value, Picture) and value.text == "two(. .)"
            self.assertIs(is_sound_picture(TWOTHREE, value), right)
        self.assertIs(is_sound_picture(TWOTHREE, "two(. .)"), False)

    def test_no_scheme(self):
        leaf = Picture("even(. .)")
        self.refuses_odd(InvalidScheme, lambda value: is_sound_picture(value, leaf),
                         lambda value: isinstance(value, Scheme))
        self.refused(InvalidScheme, is_sound_picture, None, None)
        self.refused(InvalidScheme, is_sound_picture, HEIGHTS.lines, Picture("."))


class Spots(Case):

    def test_spots_of_holes(self):
        self.assertEqual(spots_of(HEIGHTS, Picture("left(. .)")), (("t", -1), ("t", -2)))
        self.assertEqual(spots_of(HEIGHTS, Picture("left(left(. .) .)")), (("t", -2), ("t", -3), ("t", -2)))
        self.assertEqual(spots_of(REDBLACK, Picture("black(. mixed(red(. .) .))")),
                         (("c", -1), ("b", -1), ("b", -1), ("b", -1)))
        self.assertEqual(spots_of(REDBLACK, Picture("wide(wide(. . . .) . mixed(. .) black(. .))")),
                         (("b", -2), ("r", -2), ("c", -3), ("b", -2), ("r", -1), ("r", -2), ("b", -2), ("c", -2),
                          ("c", -2)))

    def test_steps_of_none(self):
        scheme = Scheme.from_lines("bare a", "tops a", "form x a b0 a3 a0", "form y b a0 a0")
        self.assertEqual(spots_of(scheme, Picture("x(y(. x(. . .)) . .)")),
                         (("a", 0), ("b", 0), ("a", -3), ("a", 0), ("a", -3), ("a", 0)))

    def test_pictures_that_have_none(self):
        self.refuses_odd(InvalidPicture, lambda value: spots_of(TWOTHREE, value),
                         lambda value: isinstance(value, Picture) and value.text == "two(. .)")
        for text in (".", "two(. . .)", "even(. .)", "two(. even(. .))"):
            self.refused(InvalidPicture, spots_of, TWOTHREE, Picture(text))
        self.refused(InvalidPicture, spots_of, REDBLACK, Picture("black(red(. .) .)"))
        self.refused(InvalidPicture, spots_of, TWOTHREE, "two(. .)")

    def test_no_scheme(self):
        self.refuses_odd(InvalidScheme, lambda value: spots_of(value, Picture("even(. .)")),
                         lambda value: isinstance(value, Scheme))
        self.refused(InvalidScheme, spots_of, None, None)

    def test_examples(self):
        picture = Picture("left(left(. .) .)")
        below = Picture("even(. even(. .))")
        self.assertIsNone(spot_over(HEIGHTS, below, spots_of(HEIGHTS, picture)))
        self.assertEqual(spot_over(HEIGHTS, below, (("t", -1), ("t", -2), ("t", -2))), ("t", 0))


class Held(Case):

    def test_spot_of_the_top(self):
        self.assertEqual(spot_over(HEIGHTS, Picture("left(. .)"), (("t", 5), ("t", 4))), ("t", 6))
        self.assertEqual(spot_over(REDBLACK, Picture("mixed(. .)"), (("r", 7), ("b", 7))), ("c", 7))
        self.assertEqual(spot_over(REDBLACK, Picture("wide(. . . .)"), (("b", -1), ("r", -1), ("c", -2), ("b", -1))),
                         ("b", 0))

    def test_hole(self):
        for spot in (("t", 0), ("t", -3), ("elsewher", 7), ("b", LONGEST), ("b", -LONGEST)):
            self.assertEqual(spot_over(HEIGHTS, Picture("."), (spot,)), spot)

    def test_holes_with_other_sorts_or_levels(self):
        leaf = Picture("mixed(. .)")
        for spots in ((("b", 7), ("b", 7)), (("r", 7), ("r", 7)), (("b", 7), ("r", 7)), (("r", 7), ("b", 8)),
                      (("r", 6), ("b", 7)), (("t", 7), ("b", 7))):
            self.assertIsNone(spot_over(REDBLACK, leaf, spots))

    def test_parts_with_other_sorts_or_levels(self):
        level = (("b", 0), ("b", 0), ("b", 0))
        self.assertIsNone(spot_over(REDBLACK, Picture("mixed(. red(. .))"), (("r", 0), *level[:2])))
        self.assertEqual(spot_over(REDBLACK, Picture("mixed(red(. .) .)"), level), ("c", 0))
        self.assertIsNone(spot_over(REDBLACK, Picture("mixed(red(. .) .)"), (("b", 1), ("b", 1), ("b", 0))))
        self.assertIsNone(spot_over(REDBLACK, Picture("mixed(red(. .) .)"), (("b", 1), ("b", 0), ("b", 0))))

    def test_names_that_are_no_forms(self):
        for text in ("two(. .)", "t(. .)", "even(. two(. .))", "even(two(. .) .)"):
            picture = Picture(text)
            self.assertIsNone(spot_over(HEIGHTS, picture, (LEVEL,) * picture.holes))

    def test_forms_with_other_numbers_of_children(self):
        for text in ("two(. . .)", "three(. .)", "three(. . . .)", "two(. two(. . .))"):
            picture = Picture(text)
            self.assertIsNone(spot_over(TWOTHREE, picture, (LEVEL,) * picture.holes))

    def test_sound_pictures_hold_over_their_spots(self):
        for scheme, levels in ((HEIGHTS, 3), (TWOTHREE, 3), (REDBLACK, 3)):
            for text in sound_texts(scheme, levels)[::7]:
                picture = Picture(text)
                self.assertIs(is_sound_picture(scheme, picture), True)
                top = (scheme[picture.called].sort_name, 0)
                spots = spots_of(scheme, picture)
                self.assertEqual(spot_over(scheme, picture, spots), top)
                self.assertEqual(slow_spot(scheme, picture, spots), top)
                raised = tuple((sort, level + 9) for sort, level in spots)
                self.assertEqual(spot_over(scheme, picture, raised), (top[0], 9))

    def test_all_spots_of_small_pictures(self):
        choices = [(sort, level) for sort in "bcr" for level in (-1, 0, 1)]
        for text in ("red(. .)", "mixed(red(. .) .)", "mixed(. red(. .))", "black(mixed(. .) .)", "."):
            picture = Picture(text)
            for spots in itertools.product(choices, repeat=picture.holes):
                self.assertEqual(spot_over(REDBLACK, picture, spots), slow_spot(REDBLACK, picture, spots))

    def test_long_levels(self):
        picture = Picture("even(. .)")
        self.assertEqual(spot_over(HEIGHTS, picture, (("t", LONGEST),) * 2), ("t", TOO_LONG))
        self.assertEqual(spot_over(HEIGHTS, picture, (("t", -LONGEST),) * 2), ("t", 1 - LONGEST))
        for level in (TOO_LONG, -TOO_LONG):
            self.refused(InvalidOperation, spot_over, HEIGHTS, picture, (("t", level),) * 2)

    def test_as_many_spots_as_holes(self):
        for text in (".", "even(. .)", "even(. even(. .))", "two(. .)"):
            picture = Picture(text)
            for many in range(6):
                if many != picture.holes:
                    self.refused(InvalidOperation, spot_over, HEIGHTS, picture, (LEVEL,) * many)

    def test_values_that_are_no_spots(self):
        picture = Picture("even(. .)")
        for spot in (("t",), ("t", 0, 0), (), ["t", 0], "t", "t0", None, 0, {"t": 0}, ("T", 0), ("", 0),
                     ("abcdefghi", 0), (0, "t"), (None, 0), (["t"], 0), ("t", True), ("t", False), ("t", None),
                     ("t", "0"), ("t", (0,))):
            self.refused(InvalidOperation, spot_over, HEIGHTS, picture, (LEVEL, spot))
            self.refused(InvalidOperation, spot_over, HEIGHTS, picture, (spot, LEVEL))
            self.refused(InvalidOperation, spot_over, HEIGHTS, Picture("."), (spot,))
            self.refused(InvalidOperation, spot_over, HEIGHTS, Picture("two(. .)"), (LEVEL, spot))

    def test_odd_arguments(self):
        leaf = Picture("even(. .)")
        self.refuses_odd(InvalidScheme, lambda value: spot_over(value, leaf, (LEVEL, LEVEL)),
                         lambda value: isinstance(value, Scheme))
        self.refuses_odd(InvalidOperation, lambda value: spot_over(HEIGHTS, leaf, value),
                         lambda value: repr(value) in ("(('t', 1), ('t', 1))", "(('t', -1), ('t', -1))"))

    def test_values_that_are_no_pictures(self):
        for value in odd_values():
            if not isinstance(value, Picture):
                self.refused(InvalidPicture, spot_over, HEIGHTS, value, (LEVEL, LEVEL))

    def test_first_wrong_argument_decides(self):
        self.refused(InvalidScheme, spot_over, None, None, None)
        self.refused(InvalidPicture, spot_over, HEIGHTS, ".", None)
        self.refused(InvalidOperation, spot_over, HEIGHTS, Picture("two(. .)"), [LEVEL, LEVEL])
        self.refused(InvalidPicture, spots_of, HEIGHTS, None)
