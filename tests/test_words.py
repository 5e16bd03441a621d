"""Points 0.1, 0.5, 0.7 and the first stage: integers and names."""

from mendbooks.base import words
from mendbooks.base.words import is_count, is_integer, is_name, is_names
from tests.cases import Case
from tests.samples import LONGEST, TOO_LONG, odd_values


class Constants(Case):

    def test_constants(self):
        self.assertEqual((words.MAX_LETTERS, words.MAX_DIGITS), (8, 60))


class Judged(Case):

    def test_every_value_is_judged(self):
        for judge in (is_integer, is_count, is_name, is_names):
            for value in odd_values():
                self.judged(judge, value)

    def test_example(self):
        answers = [is_integer(-7), is_count(True), is_name("Black"), is_names(("a", "b")), is_names(("b", "a"))]
        self.assertEqual(answers, [True, False, False, True, False])


class Integers(Case):

    def test_integers(self):
        for value in (0, 1, -1, 7, -7, LONGEST, -LONGEST):
            self.assertIs(is_integer(value), True, value)

    def test_longer_ones_are_none(self):
        for value in (TOO_LONG, -TOO_LONG, TOO_LONG + 1, 10 ** 99, -10 ** 99):
            self.assertIs(is_integer(value), False, value)

    def test_limit_is_that_of_the_constant(self):
        self.assertEqual(len(str(LONGEST)), words.MAX_DIGITS)

    def test_other_values_are_none(self):
        for value in (True, False, None, "1", "", (1,), [1], {1: 1}, 1.0):
            self.assertIs(is_integer(value), False, value)


class Counts(Case):

    def test_counts(self):
        for value in (0, 1, 2, LONGEST):
            self.assertIs(is_count(value), True, value)

    def test_others_are_none(self):
        for value in (-1, -LONGEST, TOO_LONG, -TOO_LONG, True, False, None, "0", (), [0]):
            self.assertIs(is_count(value), False, value)


class Names(Case):

    def test_names(self):
        for value in ("a", "z", "x", "to", "black", "abcdefgh", "zzzzzzzz"):
            self.assertIs(is_name(value), True, value)

    def test_others_are_none(self):
        for value in ("", "abcdefghi", "A", "Black", "blacK", "a1", "1", "a b", " a", "a ", "a_b", "a-b", "a.", "a\n",
                      "\na", "`", "{", "\u00e9", "\u00df", "\u0430", "\u00aa"):
            self.assertIs(is_name(value), False, value)

    def test_other_kinds_are_none(self):
        for value in (None, True, 1, ("a",), ["a"], {"a": "a"}, b"a"):
            self.assertIs(is_name(value), False, value)


class TuplesOfNames(Case):

    def test_ascending_tuples(self):
        for value in ((), ("a",), ("a", "b"), ("a", "aa", "ab", "b"), ("abcdefgh", "b", "z")):
            self.assertIs(is_names(value), True, value)

    def test_others_are_none(self):
        for value in (("b", "a"), ("a", "a"), ("a", "c", "b"), ("a", "b", "b"), ("aa", "a"), ("",), ("A",),
                      ("a", "abcdefghi"), ("a", 1), (1, 2), (None,), (("a",),), ("a", ["b"]), ([], []), ({},)):
            self.assertIs(is_names(value), False, value)

    def test_other_kinds_are_none(self):
        for value in (["a", "b"], [], "a", "", "ab", {"a": "b"}, {}, None, True, 1):
            self.assertIs(is_names(value), False, value)
