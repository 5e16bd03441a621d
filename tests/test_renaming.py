"""The second stage: mirrored and renamed schemes."""

from mendbooks.base.forms import Form, Scheme, mirrored_scheme, renamed_scheme
from mendbooks.errors import InvalidOperation, InvalidScheme
from tests.cases import Case
from tests.samples import HEIGHTS, REDBLACK, TWOTHREE

SORTS = {"b": "z", "c": "b", "r": "c"}
FORMS = {"black": "red", "mixed": "black", "red": "a", "wide": "wide"}


class Mirrored(Case):

    def test_children_stand_in_the_opposite_order(self):
        mirrored = mirrored_scheme(REDBLACK)
        self.assertEqual(mirrored.lines, ("bare b", "tops b r", "form black b c1 c1", "form mixed c b0 r0",
                                          "form red r b0 b0", "form wide b b1 c2 r1 b1"))

    def test_example(self):
        self.assertEqual(mirrored_scheme(HEIGHTS)["left"], Form("left", "t", (("t", 2), ("t", 1))))

    def test_twice(self):
        for scheme in (HEIGHTS, REDBLACK, TWOTHREE):
            self.assertEqual(mirrored_scheme(mirrored_scheme(scheme)), scheme)
        self.assertEqual(mirrored_scheme(TWOTHREE), TWOTHREE)
        self.assertNotEqual(mirrored_scheme(HEIGHTS), HEIGHTS)

    def test_no_scheme(self):
        self.refuses_odd(InvalidScheme, mirrored_scheme, lambda value: isinstance(value, Scheme))
        self.refused(InvalidScheme, mirrored_scheme, REDBLACK.lines)


class Renamed(Case):

    def test_other_names(self):
        renamed = renamed_scheme(REDBLACK, SORTS, FORMS)
        self.assertEqual(renamed.lines, ("bare z", "tops c z", "form a c z0 z0", "form black b c0 z0",
                                         "form red z b1 b1", "form wide z z1 c1 b2 z1"))

    def test_order_of_the_dicts_does_not_matter(self):
        sorts = {key: SORTS[key] for key in sorted(SORTS, reverse=True)}
        self.assertEqual(renamed_scheme(REDBLACK, sorts, FORMS), renamed_scheme(REDBLACK, SORTS, FORMS))

    def test_the_same_names(self):
        self.assertEqual(renamed_scheme(TWOTHREE, {"t": "t"}, {"two": "two", "three": "three"}), TWOTHREE)

    def test_names_that_sorts_and_forms_share(self):
        self.assertEqual(renamed_scheme(TWOTHREE, {"t": "two"}, {"two": "t", "three": "two"}).lines,
                         ("bare two", "tops two", "form t two two1 two1", "form two two two1 two1 two1"))

    def test_there_and_back(self):
        back = [{value: key for key, value in names.items()} for names in (SORTS, FORMS)]
        self.assertEqual(renamed_scheme(renamed_scheme(REDBLACK, SORTS, FORMS), *back), REDBLACK)

    def test_dicts_are_not_changed(self):
        sorts, forms = dict(SORTS), dict(FORMS)
        renamed_scheme(REDBLACK, sorts, forms)
        self.assertEqual((sorts, forms), (SORTS, FORMS))

    def test_wrong_sorts(self):
        for sorts in wrong_renamings(SORTS, "b"):
            self.refused(InvalidOperation, renamed_scheme, REDBLACK, sorts, FORMS)

    def test_wrong_forms(self):
        for forms in wrong_renamings(FORMS, "red"):
            self.refused(InvalidOperation, renamed_scheme, REDBLACK, SORTS, forms)

    def test_odd_arguments(self):
        names = {name: name for name in HEIGHTS.names}
        self.refuses_odd(InvalidOperation, lambda value: renamed_scheme(HEIGHTS, value, names),
                         lambda value: value == {"t": "t"})
        self.refuses_odd(InvalidOperation, lambda value: renamed_scheme(HEIGHTS, {"t": "t"}, value),
                         lambda value: False)
        self.refuses_odd(InvalidScheme, lambda value: renamed_scheme(value, {"t": "t"}, names),
                         lambda value: isinstance(value, Scheme))

    def test_first_wrong_argument_decides(self):
        self.refused(InvalidScheme, renamed_scheme, "t", None, None)
        self.refused(InvalidOperation, renamed_scheme, REDBLACK, None, None)


def wrong_renamings(names, key):
    """Dicts like this one, but each with something wrong in it."""
    fewer = {word: names[word] for word in names if word != key}
    wrong = [None, [], (), "", tuple(names.items()), {}, fewer, {**names, "more": "other"}, {**fewer, "more": "other"},
             {**fewer, None: "other"}, {**fewer, ("b",): "other"}, {**fewer, 1: "other"}]
    values = ["", "Red", "abcdefghi", "a1", None, True, 1, ["a"], ("a",), {"a": "a"}, *fewer.values()]
    return wrong + [{**names, key: value} for value in values]
