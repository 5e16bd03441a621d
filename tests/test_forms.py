"""Points 0.7, 2.1 and the second stage: forms."""

from mendbooks.base import forms
from mendbooks.base.forms import Form
from mendbooks.base.words import is_name
from mendbooks.errors import InvalidForm, InvalidName, InvalidNumber, ParseError
from tests.cases import Case
from tests.samples import LONGEST, TOO_LONG, odd_values

PAIR = (("t", 1), ("t", 2))


def left():
    return Form("left", "t", PAIR)


class Constants(Case):

    def test_constants(self):
        found = (forms.MAX_CHILDREN, forms.MAX_STEP, forms.MAX_SORTS, forms.MAX_FORMS)
        self.assertEqual(found, (4, 3, 8, 24))


class Made(Case):

    def test_properties(self):
        form = Form("left", "s", PAIR)
        self.assertEqual((form.called, form.sort_name, form.children), ("left", "s", PAIR))

    def test_two_to_four_children(self):
        for many in (2, 3, 4):
            self.assertEqual(len(Form("a", "t", (("t", 1),) * many)), many)
        for many in (0, 1, 5, 6):
            self.refused(InvalidForm, Form, "a", "t", (("t", 1),) * many)

    def test_steps(self):
        for step in (0, 1, 2, 3):
            self.assertEqual(Form("a", "t", (("t", step), ("s", 0))).children, (("t", step), ("s", 0)))
        for step in (4, -1, True, False, None, "1", 10, LONGEST, -LONGEST, TOO_LONG, (1,), [1]):
            self.refused(InvalidForm, Form, "a", "t", (("t", 1), ("t", step)))
            self.refused(InvalidForm, Form, "a", "t", (("t", step), ("t", 1)))

    def test_children_that_are_no_pairs(self):
        for child in ("t1", "t", ("t",), ("t", 1, 1), (), ["t", 1], {"t": 1}, {"t": 1, "s": 1}, None, 1, (1, "t"),
                      left(), ("T", 1), ("", 1), ("abcdefghi", 1), (["t"], 1), (("t",), 1), (None, 1), ({}, [])):
            self.refused(InvalidForm, Form, "a", "t", (("t", 1), child))
            self.refused(InvalidForm, Form, "a", "t", (child, ("t", 1)))

    def test_names_of_one_to_eight_letters(self):
        for name in ("a", "z", "abcdefgh"):
            self.assertEqual(Form(name, name, ((name, 0), (name, 3))).called, name)
        for name in ("", "abcdefghi", "A", "a1", "a b", "a_", ".", "\u00e9"):
            self.refused(InvalidName, Form, name, "t", PAIR)
            self.refused(InvalidName, Form, "a", name, PAIR)
            self.refused(InvalidForm, Form, "a", "t", (("t", 1), (name, 1)))

    def test_odd_arguments(self):
        self.refuses_odd(InvalidName, lambda value: Form(value, "t", PAIR), is_name)
        self.refuses_odd(InvalidName, lambda value: Form("a", value, PAIR), is_name)
        self.refuses_odd(InvalidForm, lambda value: Form("a", "t", value),
                         lambda value: repr(value) == "(('t', 1), ('t', 1))")

    def test_first_wrong_argument_decides(self):
        self.refused(InvalidName, Form, "", "t", ())
        self.refused(InvalidName, Form, "a", "", ())
        self.refused(InvalidName, Form, None, 1, [])
        self.refused(InvalidForm, Form, "a", "t", ())


class Looked(Case):

    def test_children_by_index(self):
        form = Form("a", "t", (("r", 0), ("s", 1), ("t", 2)))
        self.assertEqual([form[0], form[1], form[2]], [("r", 0), ("s", 1), ("t", 2)])

    def test_indices_that_lead_to_nothing(self):
        self.refuses_odd(InvalidNumber, lambda value: left()[value],
                         lambda value: value in (0, 1) and not isinstance(value, bool), keeps="value")
        for index in (2, -1, -2, True, False, LONGEST, TOO_LONG, None, "0", (0,), slice(0, 1)):
            self.refused(InvalidNumber, lambda: left()[index], value=index)

    def test_length_and_iteration(self):
        form = Form("a", "t", (("r", 0), ("s", 1), ("t", 2)))
        self.assertEqual((len(form), list(form), tuple(form)), (3, list(form.children), form.children))
        first = iter(form)
        next(first)
        self.assertEqual(list(form), list(form.children))

    def test_line(self):
        self.assertEqual(str(left()), "form left t t1 t2")
        self.assertEqual(str(Form("abcdefgh", "r", (("s", 0), ("t", 3), ("r", 2), ("s", 1)))),
                         "form abcdefgh r s0 t3 r2 s1")

    def test_properties_are_not_assigned(self):
        for word in ("called", "sort_name", "children"):
            with self.assertRaises(AttributeError):
                setattr(left(), word, "t")


class Compared(Case):

    def test_equal_forms(self):
        self.assertIs(left() == left(), True)
        self.assertIs(left() != left(), False)

    def test_unlike_forms(self):
        for other in (Form("right", "t", PAIR), Form("left", "s", PAIR), Form("left", "t", PAIR[::-1]),
                      Form("left", "t", (("t", 1), ("s", 2))), Form("left", "t", (*PAIR, ("t", 1)))):
            self.assertIs(left() == other, False)
            self.assertIs(left() != other, True)

    def test_every_value(self):
        for value in odd_values():
            self.assertIs(left() == value, False)
            self.assertIs(value == left(), False)
            self.assertIs(left() != value, True)
        self.assertIs(left() == "form left t t1 t2", False)


class Lines(Case):

    def test_read_and_written_again(self):
        for line in ("form left t t1 t2", "form a b c0 d3", "form abcdefgh zyxwvuts abcdefgh3 b2 c1 d0",
                     "form form form form0 form0", "form bare tops tops1 bare1 to1"):
            self.assertEqual(str(Form.from_line(line)), line)
        self.assertEqual(Form.from_line("form left t t1 t2"), left())

    def test_lines_of_none(self):
        for line in ("", " ", "form", "form ", "form left", "form left t", "form left t t1", "form left t t1 t2 ",
                     " form left t t1 t2", "form  left t t1 t2", "form left t t1  t2", "form left t t1\tt2",
                     "form left t t1 t2\n", "\nform left t t1 t2", "form left t\nt1 t2", "Form left t t1 t2",
                     "forms left t t1 t2", "left t t1 t2", "form left t t1 t1 t1 t1 t1", "form left t t1 t4",
                     "form left t t1 t-1", "form left t t1 t+1", "form left t t1 t10", "form left t t1 t01",
                     "form left t t1 t", "form left t t1 1", "form left t t1 1t", "form left t 1 t1",
                     "form Left t t1 t2", "form left T t1 t2", "form left t T1 t2", "form l1 t t1 t2",
                     "form left t1 t1 t2", "form  t t1 t2",
                     "form abcdefghi t t1 t2", "form left abcdefghi t1 t2", "form left t abcdefghi1 t2",
                     "form left t t1 t\u00b2", "form left t t1 t\u0661", "form left t t1, t2", "form left t t 1 t 2",
                     "bare t", "tops t", "put ^two"):
            self.refused(ParseError, Form.from_line, line, number=None)

    def test_every_value(self):
        self.refuses_odd(ParseError, Form.from_line, lambda value: value == "form even t t1 t1")
        for value in (None, 1, True, ("form left t t1 t2",), ["form", "left"], left(), b"form left t t1 t2"):
            self.refused(ParseError, Form.from_line, value, number=None)
