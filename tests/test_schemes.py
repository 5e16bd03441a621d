"""Points 0.7, 2.1 and the second stage: schemes."""

import itertools

from mendbooks.base.forms import Form, Scheme
from mendbooks.errors import InvalidForm, InvalidNumber, InvalidScheme, ParseError, UnknownName
from tests.cases import Case
from tests.samples import HEIGHT_LINES, HEIGHTS, LONGEST, REDBLACK, TOO_LONG, TWOTHREE, odd_values

EVEN = Form("even", "t", (("t", 1), ("t", 1)))
LEFT = Form("left", "t", (("t", 1), ("t", 2)))
RIGHT = Form("right", "t", (("t", 2), ("t", 1)))
LETTERS = "abcdefghijklmnopqrstuvwxyz"


def many_forms(many):
    """So many forms of one sort, each with other children."""
    steps = list(itertools.product(range(4), repeat=3))
    return tuple(Form(LETTERS[k], "t", tuple(("t", step) for step in steps[k])) for k in range(many))


def sorts_in_forms(many):
    """Two forms with so many sorts, beside t, in them and in their children."""
    sorts = LETTERS[:many]
    return (Form("one", sorts[0], tuple((sort, 1) for sort in sorts[:4])),
            Form("two", sorts[-1], tuple((sort, 1) for sort in sorts[-4:])))


class Made(Case):

    def test_properties(self):
        self.assertEqual((REDBLACK.bare, REDBLACK.tops, REDBLACK.sorts), ("b", ("b", "r"), ("b", "c", "r")))
        self.assertEqual(REDBLACK.names, ("black", "mixed", "red", "wide"))
        self.assertEqual(tuple(form.called for form in REDBLACK.forms), REDBLACK.names)
        self.assertTrue(all(isinstance(form, Form) for form in REDBLACK.forms))

    def test_forms_in_any_order(self):
        for forms in itertools.permutations((RIGHT, EVEN, LEFT)):
            scheme = Scheme("t", ("t",), forms)
            self.assertEqual((scheme.forms, scheme.names), ((EVEN, LEFT, RIGHT), ("even", "left", "right")))
            self.assertEqual(scheme, HEIGHTS)

    def test_sorts_of_tops_forms_and_children(self):
        scheme = Scheme("c", ("a", "c"), (Form("x", "e", (("d", 1), ("b", 0))),))
        self.assertEqual(scheme.sorts, ("a", "b", "c", "d", "e"))

    def test_tops_without_bare(self):
        self.refused(InvalidScheme, Scheme, "t", ("s",), (EVEN,))
        self.refused(InvalidScheme, Scheme, "t", (), (EVEN,))
        self.refused(InvalidScheme, Scheme, "ab", ("abc",), (EVEN,))

    def test_tops_that_do_not_ascend(self):
        for tops in (("t", "s"), ("t", "t"), ("s", "t", "t")):
            self.refused(InvalidScheme, Scheme, "t", tops, (EVEN,))

    def test_names_of_sorts(self):
        for name in ("", "abcdefghi", "T", "t1"):
            self.refused(InvalidScheme, Scheme, name, (name,), (EVEN,))
        self.assertEqual(Scheme("abcdefgh", ("abcdefgh",), (EVEN,)).sorts, ("abcdefgh", "t"))

    def test_eight_sorts(self):
        self.assertEqual(Scheme("t", ("t",), sorts_in_forms(7)).sorts, (*LETTERS[:7], "t"))
        self.refused(InvalidScheme, Scheme, "t", ("t",), sorts_in_forms(8))
        self.assertEqual(Scheme("m", tuple(LETTERS[12:19]), (EVEN,)).sorts, (*LETTERS[12:19], "t"))
        self.refused(InvalidScheme, Scheme, "m", tuple(LETTERS[11:19]), (EVEN,))
        self.assertEqual(len(Scheme("t", tuple(LETTERS[12:20]), (EVEN,)).sorts), 8)
        self.refused(InvalidScheme, Scheme, "t", tuple(LETTERS[11:20]), (EVEN,))

    def test_one_to_twenty_four_forms(self):
        for many in (1, 2, 24):
            self.assertEqual(len(Scheme("t", ("t",), many_forms(many))), many)
        self.refused(InvalidScheme, Scheme, "t", ("t",), ())
        self.refused(InvalidScheme, Scheme, "t", ("t",), many_forms(25))

    def test_forms_with_one_name(self):
        twin = Form("even", "t", (("t", 3), ("t", 3)))
        self.refused(InvalidScheme, Scheme, "t", ("t",), (EVEN, twin))
        self.refused(InvalidScheme, Scheme, "t", ("t",), (EVEN, LEFT, EVEN))

    def test_forms_with_one_sort_and_children(self):
        self.refused(InvalidScheme, Scheme, "t", ("t",), (EVEN, Form("odd", "t", EVEN.children)))
        self.assertEqual(len(Scheme("t", ("t",), (EVEN, Form("odd", "s", EVEN.children)))), 2)
        self.assertEqual(len(Scheme("t", ("t",), (LEFT, RIGHT))), 2)

    def test_odd_arguments(self):
        self.refuses_odd(InvalidScheme, lambda value: Scheme(value, ("t",), (EVEN,)), lambda value: value == "t")
        self.refuses_odd(InvalidScheme, lambda value: Scheme("t", value, (EVEN,)), lambda value: value == ("t",))
        self.refuses_odd(InvalidScheme, lambda value: Scheme("t", ("t",), value), lambda value: value == (EVEN,))

    def test_values_that_are_no_tuples_of_forms(self):
        for forms in ([EVEN], EVEN, {"even": EVEN}, (EVEN, None), (EVEN, (LEFT,)), (EVEN, str(LEFT)), HEIGHTS, None,
                      (EVEN, [LEFT]), (("even", "t", EVEN.children),)):
            self.refused(InvalidScheme, Scheme, "t", ("t",), forms)

    def test_nothing_is_shared_with_arguments(self):
        forms = [LEFT, EVEN]
        scheme = Scheme("t", ("t",), tuple(forms))
        forms.append(RIGHT)
        self.assertEqual(scheme.names, ("even", "left"))

    def test_properties_are_not_assigned(self):
        for word in ("bare", "tops", "forms", "names", "sorts", "lines"):
            with self.assertRaises(AttributeError):
                setattr(HEIGHTS, word, ())


class Lines(Case):

    def test_lines_of_a_scheme(self):
        self.assertEqual(HEIGHTS.lines, HEIGHT_LINES)
        self.assertEqual(REDBLACK.lines, ("bare b", "tops b r", "form black b c1 c1", "form mixed c r0 b0",
                                          "form red r b0 b0", "form wide b b1 r1 c2 b1"))

    def test_any_order(self):
        for lines in itertools.permutations(HEIGHT_LINES):
            self.assertEqual(Scheme.from_lines(*lines).lines, HEIGHT_LINES)

    def test_read_and_written_again(self):
        for scheme in (HEIGHTS, TWOTHREE, REDBLACK, Scheme("t", ("t",), many_forms(24))):
            self.assertEqual(Scheme.from_lines(*scheme.lines), scheme)
            self.assertEqual(Scheme.from_lines(*scheme.lines[::-1]), scheme)

    def test_first_value_that_is_no_line(self):
        for at in range(6):
            lines = [*HEIGHT_LINES]
            lines.insert(at, "form even")
            self.refused(ParseError, Scheme.from_lines, *lines, "x", number=at)

    def test_lines_of_none(self):
        for line in ("", " ", "bare", "bare ", "bare  t", "bare t ", " bare t", "bare t\n", "bare T", "bare t1",
                     "bare s t", "bare abcdefghi", "Bare t", "tops", "tops ", "tops  t", "tops t ", " tops t",
                     "tops t\n", "tops T",
                     "tops t s", "tops t t", "tops s t t", "tops s,t", "tops t abcdefghi", "Tops t", "top t", "form",
                     "form odd t t1", "form odd t t1 t4", "form odd t t1 t1 t1 t1 t1", "put ^two", "t", "bare\tt"):
            self.refused(ParseError, Scheme.from_lines, line, number=0)
            self.refused(ParseError, Scheme.from_lines, "form odd t t3 t3", line, number=1)

    def test_a_second_bare_or_tops_line(self):
        for line in ("bare t", "bare s", "tops t", "tops s t"):
            self.refused(ParseError, Scheme.from_lines, *HEIGHT_LINES, line, number=5)
        self.refused(ParseError, Scheme.from_lines, "tops s", "bare t", "tops s", number=2)

    def test_a_name_of_an_earlier_form(self):
        self.refused(ParseError, Scheme.from_lines, *HEIGHT_LINES, "form left t t3 t3", number=5)
        self.refused(ParseError, Scheme.from_lines, *HEIGHT_LINES, "form left t t1 t2", number=5)
        self.refused(ParseError, Scheme.from_lines, "form a t t1 t1", "form a s s1 s1", "bare", number=1)

    def test_then_no_scheme(self):
        self.refused(InvalidScheme, Scheme.from_lines)
        for at in range(2):
            self.refused(InvalidScheme, Scheme.from_lines, *HEIGHT_LINES[:at], *HEIGHT_LINES[at + 1:])
        self.refused(InvalidScheme, Scheme.from_lines, "bare t", "tops t")
        self.refused(InvalidScheme, Scheme.from_lines, "bare t", "tops s", "form even t t1 t1")
        self.refused(InvalidScheme, Scheme.from_lines, *HEIGHT_LINES, "form odd t t1 t1")
        self.refused(InvalidScheme, Scheme.from_lines, "bare a", "tops a b c d e f g h i", "form even a a1 a1")
        self.refused(InvalidScheme, Scheme.from_lines, "bare t", "tops t", *map(str, many_forms(25)))
        self.assertEqual(len(Scheme.from_lines("bare t", "tops t", *map(str, many_forms(24)))), 24)

    def test_no_line_decides_ahead_of_no_scheme(self):
        self.refused(ParseError, Scheme.from_lines, "bare t", "tops s", "form even t t1 t1", "tops", number=3)

    def test_every_value(self):
        lines = {"bare t", "tops t", "form even t t1 t1"}
        for value in odd_values():
            if isinstance(value, str) and value in lines:
                self.refused(InvalidScheme, Scheme.from_lines, value)
            else:
                self.refused(ParseError, Scheme.from_lines, value, number=0)
                self.refused(ParseError, Scheme.from_lines, "form odd t t1 t2", value, 5, number=1)
        self.refused(ParseError, Scheme.from_lines, HEIGHT_LINES, number=0)
        self.refused(ParseError, Scheme.from_lines, EVEN, number=0)


class Looked(Case):

    def test_form_by_name(self):
        self.assertEqual((HEIGHTS["even"], HEIGHTS["left"], HEIGHTS["right"]), (EVEN, LEFT, RIGHT))

    def test_unknown_names(self):
        self.refuses_odd(UnknownName, lambda value: HEIGHTS[value], lambda value: value in ("even", "left"),
                         keeps="name")
        for name in ("t", "Left", "lef", "", 0, -1, True, LEFT, ("left",), ["left"], {"left": 1}, slice(0, 1)):
            self.refused(UnknownName, lambda: HEIGHTS[name], name=name)

    def test_in(self):
        for value in ("even", "left", "right", EVEN, LEFT, Form("right", "t", (("t", 2), ("t", 1)))):
            self.assertIs(value in HEIGHTS, True)
        for value in ("t", "bare t", "form even t t1 t1", "two", Form("even", "t", (("t", 1), ("t", 2))),
                      Form("even", "s", EVEN.children), Form("odd", "t", EVEN.children), HEIGHTS, (EVEN,), [EVEN]):
            self.assertIs(value in HEIGHTS, False)
        for value in odd_values():
            self.assertIs(value in HEIGHTS, isinstance(value, str) and value in ("even", "left"))

    def test_of_sort(self):
        self.assertEqual(HEIGHTS.of_sort("t"), ("even", "left", "right"))
        self.assertEqual([REDBLACK.of_sort(sort) for sort in "bcr"], [("black", "wide"), ("mixed",), ("red",)])
        self.assertEqual(Scheme("a", ("a", "b"), (EVEN,)).of_sort("b"), ())

    def test_of_unknown_sort(self):
        self.refuses_odd(UnknownName, HEIGHTS.of_sort, lambda value: value == "t", keeps="name")
        for sort in ("even", "s", "", "T", None, True, ("t",), ["t"]):
            self.refused(UnknownName, HEIGHTS.of_sort, sort, name=sort)

    def test_parents(self):
        self.assertEqual(HEIGHTS.parents("t", 1), (("even", 0), ("even", 1), ("left", 0), ("right", 1)))
        self.assertEqual(HEIGHTS.parents("t", 2), (("left", 1), ("right", 0)))
        self.assertEqual((HEIGHTS.parents("t", 0), HEIGHTS.parents("t", 3)), ((), ()))
        self.assertEqual(REDBLACK.parents("b", 0), (("mixed", 1), ("red", 0), ("red", 1)))
        self.assertEqual(REDBLACK.parents("b", 1), (("wide", 0), ("wide", 3)))
        self.assertEqual(REDBLACK.parents("c", 2), (("wide", 2),))

    def test_parents_of_wrong_arguments(self):
        self.refuses_odd(UnknownName, lambda value: HEIGHTS.parents(value, 1), lambda value: value == "t", keeps="name")
        self.refuses_odd(InvalidNumber, lambda value: HEIGHTS.parents("t", value),
                         lambda value: not isinstance(value, bool) and value in (0, 1, 2, 3), keeps="value")
        for step in (4, -1, True, False, LONGEST, TOO_LONG, -TOO_LONG, None, "1"):
            self.refused(InvalidNumber, HEIGHTS.parents, "t", step, value=step)
        self.refused(UnknownName, HEIGHTS.parents, "s", 4, name="s")

    def test_length_and_text(self):
        self.assertEqual((len(HEIGHTS), len(REDBLACK), bool(HEIGHTS)), (3, 4, True))
        self.assertEqual((str(HEIGHTS), str(REDBLACK)), ("scheme of 3 forms, 1 sorts", "scheme of 4 forms, 3 sorts"))

    def test_no_iteration(self):
        for call in (iter, list, tuple, sorted, enumerate):
            self.refused(TypeError, call, HEIGHTS)


class Compared(Case):

    def test_equal_schemes(self):
        twin = Scheme("t", ("t",), (RIGHT, LEFT, EVEN))
        self.assertIs(HEIGHTS == twin, True)
        self.assertIs(HEIGHTS != twin, False)

    def test_unlike_schemes(self):
        forms = HEIGHTS.forms
        others = (Scheme("t", ("s", "t"), forms), Scheme("t", ("t",), forms[:2]), REDBLACK, TWOTHREE)
        for other in others:
            self.assertIs(HEIGHTS == other, False)
            self.assertIs(HEIGHTS != other, True)
        self.assertIs(Scheme("s", ("s", "t"), forms) == Scheme("t", ("s", "t"), forms), False)

    def test_every_value(self):
        for value in odd_values():
            equal = isinstance(value, Scheme)
            self.assertIs(HEIGHTS == value, equal)
            self.assertIs(value == HEIGHTS, equal)
            self.assertIs(HEIGHTS != value, not equal)


class Changed(Case):

    def test_with_one_more_form(self):
        wide = Form("wide", "s", (("t", 1), ("s", 1), ("t", 1)))
        more = HEIGHTS.with_form(wide)
        self.assertEqual((more.names, more.sorts, more["wide"]), (("even", "left", "right", "wide"), ("s", "t"), wide))
        self.assertEqual(HEIGHTS.names, ("even", "left", "right"))

    def test_with_another_form_of_a_name(self):
        twin = Form("left", "t", (("t", 1), ("t", 3)))
        self.assertEqual(HEIGHTS.with_form(twin).forms, (EVEN, twin, RIGHT))
        self.assertEqual(HEIGHTS.with_form(LEFT), HEIGHTS)
        full = Scheme("t", ("t",), many_forms(24))
        self.assertEqual(len(full.with_form(Form("a", "t", (("t", 1), ("t", 1))))), 24)

    def test_with_what_is_no_form(self):
        self.refuses_odd(InvalidForm, REDBLACK.with_form, lambda value: isinstance(value, Form))

    def test_then_with_no_scheme(self):
        self.refused(InvalidScheme, HEIGHTS.with_form, Form("odd", "t", EVEN.children))
        self.refused(InvalidScheme, Scheme("t", ("t",), many_forms(24)).with_form, many_forms(25)[24])
        full = Scheme("t", ("t",), sorts_in_forms(7))
        self.refused(InvalidScheme, full.with_form, Form("more", "z", (("t", 1), ("t", 1))))

    def test_without(self):
        self.assertEqual(HEIGHTS.without("left").forms, (EVEN, RIGHT))
        self.assertEqual(REDBLACK.without("mixed").sorts, ("b", "c", "r"))
        self.assertEqual(TWOTHREE.without("two").lines, ("bare t", "tops t", "form three t t1 t1 t1"))
        self.assertEqual(HEIGHTS.names, ("even", "left", "right"))

    def test_without_what_is_not_there(self):
        self.refuses_odd(UnknownName, HEIGHTS.without, lambda value: value in ("even", "left"), keeps="name")
        self.refused(UnknownName, HEIGHTS.without, LEFT, name=LEFT)

    def test_then_without_the_last_form(self):
        last = HEIGHTS.without("left").without("right")
        self.refused(InvalidScheme, last.without, "even")
        self.refused(UnknownName, last.without, "left", name="left")
        self.assertEqual(last.names, ("even",))
