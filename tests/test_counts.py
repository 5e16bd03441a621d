"""Point 8.1 and the eighth stage: counts."""

import itertools

from mendbooks.base.forms import Scheme, mirrored_scheme
from mendbooks.errors import InvalidNumber, InvalidScheme, InvalidShape, TooMany, UnknownName
from mendbooks.ranks import counts
from mendbooks.ranks.counts import count_right, count_sound, each_right, number_of, right_at
from mendbooks.trees.shapes import Shape
from tests import chance, naive
from tests.books import REDS
from tests.cases import Case
from tests.samples import HEIGHTS, REDBLACK, TOO_LONG, TWOTHREE, caught, odd_values
from tests.schemes import EACH, HIDDEN, LEVEL, SOME, THIRDS, rings

KNOWN = ((EACH, 8), (TWOTHREE, 9), (THIRDS, 7), (SOME, 6), (LEVEL, 6), (HIDDEN, 6), (REDBLACK, 7), (REDS.scheme, 7))
# Several top sorts, nodes with four children and with steps of 0.
MIXED = Scheme.from_lines("bare b", "tops a b c", "form p a b1 c1", "form q b a1 b1", "form r c b0 b0",
                          "form s a c1 c1", "form u b b1 b1 b1 b1", "form v b a0 a0")


def right_trees(scheme, most):
    """For each number of keys the right trees in their order, made by force."""
    return [sorted([tree for tree in trees if naive.is_right(scheme, tree)],
                   key=lambda tree: naive.order_key(scheme, tree))
            for trees in naive.sound_trees(scheme, most)]


def schemes():
    return [*KNOWN, (MIXED, 8), *[(chance.scheme_of(number), 5) for number in range(25)]]


class Counted(Case):

    def test_constant(self):
        self.assertEqual(counts.MAX_COUNTED, 40)

    def test_beside_trees_made_by_force(self):
        for scheme, most in schemes():
            for keys, trees in enumerate(naive.sound_trees(scheme, most)):
                spots = [naive.spot_of(scheme, tree) for tree in trees]
                self.assertEqual(count_right(scheme, keys), sum(sort in scheme.tops for sort, _ in spots))
                for sort in scheme.sorts:
                    for rank in range(3 * most):
                        self.assertEqual(count_sound(scheme, sort, rank, keys), spots.count((sort, rank)))

    def test_known_numbers(self):
        self.assertEqual([count_right(HEIGHTS, keys) for keys in range(12)], [1, 1, 2, 1, 4, 6, 4, 17, 32, 44, 60, 70])
        self.assertEqual(sum(count_right(TWOTHREE, keys) for keys in range(20)), len(list(itertools.chain.from_iterable(
            each_right(TWOTHREE, keys) for keys in range(20)))))

    def test_no_key(self):
        for scheme, _ in schemes():
            self.assertEqual(count_right(scheme, 0), 1)
            self.assertEqual([count_sound(scheme, scheme.bare, rank, 0) for rank in (0, 1, 400)], [1, 0, 0])
            self.assertEqual([shape.rows for shape in each_right(scheme, 0)], [()])
            self.assertEqual(number_of(right_at(scheme, 0, 0)), 0)

    def test_40_keys_and_41(self):
        self.assertEqual(count_right(HEIGHTS, 40), 6246978752)
        self.assertEqual(count_sound(HEIGHTS, "t", 7, 40) + count_sound(HEIGHTS, "t", 6, 40), 6246978752)
        self.assertEqual(count_right(LEVEL.without("tall"), 40), catalan(40))
        for call in (count_right, right_at_0, first_of):
            self.refused(InvalidNumber, call, HEIGHTS, 41, value=41)
        self.refused(InvalidNumber, count_sound, HEIGHTS, "t", 3, 41, value=41)

    def test_rank_400_and_401(self):
        self.assertEqual(count_sound(HEIGHTS, "t", 400, 40), 0)
        self.refused(InvalidNumber, count_sound, HEIGHTS, "t", 401, 40, value=401)
        self.refused(InvalidNumber, count_sound, HEIGHTS, "t", -1, 40, value=-1)

    def test_no_tree_with_so_many_keys(self):
        self.assertEqual([count_right(THIRDS, keys) for keys in range(10)], [1, 0, 0, 1, 0, 0, 0, 0, 0, 0])
        self.assertEqual(list(each_right(THIRDS, 5)), [])
        self.refused(InvalidNumber, right_at, THIRDS, 5, 0, value=0)

    def test_schemes_that_have_no_ranks(self):
        self.assertEqual([count_right(rings(3), keys) for keys in (0, 1, 40)], [1, 0, 0])
        self.assertEqual(count_sound(rings(3), "a", 3, 1), 1)


def catalan(many):
    """The number of trees with so many nodes of two children."""
    found = [1]
    for keys in range(many):
        found.append(sum(found[low] * found[keys - low] for low in range(keys + 1)))
    return found[many]


def right_at_0(scheme, keys):
    return right_at(scheme, keys, 0)


def first_of(scheme, keys):
    return next(each_right(scheme, keys))


class Ordered(Case):

    def test_beside_trees_made_by_force(self):
        for scheme, most in schemes():
            for keys, trees in enumerate(right_trees(scheme, most)):
                shapes = list(each_right(scheme, keys))
                self.assertEqual([shape.rows for shape in shapes], [naive.plain_rows(tree) for tree in trees])
                for number, shape in enumerate(shapes):
                    self.assertEqual((shape.is_right, shape.size, shape.scheme), (True, keys, scheme))
                    self.assertEqual(number_of(shape), number)
                    self.assertEqual(right_at(scheme, keys, number), shape)

    def test_there_and_back(self):
        for scheme in (HEIGHTS, TWOTHREE, MIXED, LEVEL):
            for keys in (12, 25, 40):
                many = count_right(scheme, keys)
                for number in {0, 1 % many, many // 3, many // 2, many - 1} if many else ():
                    shape = right_at(scheme, keys, number)
                    self.assertEqual((shape.size, shape.is_right, number_of(shape)), (keys, True, number))

    def test_order_of_neighbours(self):
        for scheme in (HEIGHTS, LEVEL):
            for start in (0, 77, 1000):
                shapes = [right_at(scheme, 15, number) for number in range(start, start + 40)]
                told = [naive.order_key(scheme, naive.tree_of(shape.rows)) for shape in shapes]
                self.assertEqual(told, sorted(told))
                self.assertEqual(len(set(told)), 40)

    def test_found_one_by_one(self):
        many = 0
        for shape in each_right(HEIGHTS, 40):
            self.assertEqual(number_of(shape), many)
            many += 1
            if many == 5:
                break

    def test_numbers_that_are_none(self):
        many = count_right(HEIGHTS, 7)
        self.assertEqual(many, 17)
        self.refuses_odd(InvalidNumber, lambda value: right_at(HEIGHTS, 7, value), lambda value: isinstance(
            value, int) and not isinstance(value, bool) and 0 <= value < 17, keeps="value")
        for number in (17, -1, TOO_LONG):
            self.refused(InvalidNumber, right_at, HEIGHTS, 7, number, value=number)
        self.assertEqual(right_at(HEIGHTS, 7, 16).size, 7)

    def test_shapes_that_have_no_number(self):
        leaning = Shape(HEIGHTS, (("left", (None, None)),))
        red = Shape(REDS.scheme, (("red", (None, None)),))
        for value in [*odd_values(), leaning, red, leaning.rows, HEIGHTS]:
            if isinstance(value, Shape) and value.is_right:
                self.assertEqual(number_of(value), 0)
            else:
                self.refused(InvalidShape, number_of, value)

    def test_shapes_of_40_keys_and_more(self):
        flat = LEVEL.without("tall")
        for many in (40, 41):
            rows = tuple(("flat", (None if row == 0 else row - 1, None)) for row in range(many))
            if many == 40:
                self.assertEqual(number_of(Shape(flat, rows)), catalan(40) - 1)
            else:
                self.refused(TooMany, number_of, Shape(flat, rows), limit=40)
        great = Shape(TWOTHREE, tuple(("two", (None,) * 2 if row == 0 else (row - 1,) * 2) for row in range(300)))
        self.refused(TooMany, number_of, great, limit=40)


class Wrong(Case):

    def test_schemes(self):
        for call in (lambda value: count_right(value, 3), lambda value: count_sound(value, "t", 1, 3),
                     lambda value: right_at(value, 0, 0), lambda value: list(each_right(value, 3))):
            self.refuses_odd(InvalidScheme, call, lambda value: isinstance(value, Scheme))

    def test_sorts(self):
        self.refuses_odd(UnknownName, lambda value: count_sound(HEIGHTS, value, 1, 3), lambda value: value == "t",
                         keeps="name")

    def test_ranks_and_keys(self):
        def is_count(value, most):
            return isinstance(value, int) and not isinstance(value, bool) and 0 <= value <= most

        self.refuses_odd(InvalidNumber, lambda value: count_sound(HEIGHTS, "t", value, 3),
                         lambda value: is_count(value, 400), keeps="value")
        for call in (lambda value: count_sound(HEIGHTS, "t", 2, value), lambda value: count_right(HEIGHTS, value),
                     lambda value: right_at(HEIGHTS, value, 0), lambda value: next(each_right(HEIGHTS, value))):
            self.refuses_odd(InvalidNumber, call, lambda value: is_count(value, 40), keeps="value")

    def test_first_wrong_argument_decides(self):
        self.refused(InvalidScheme, count_sound, None, None, None, None)
        self.refused(UnknownName, count_sound, HEIGHTS, "s", -1, -2, name="s")
        self.refused(InvalidNumber, count_sound, HEIGHTS, "t", -1, -2, value=-1)
        self.refused(InvalidNumber, count_sound, HEIGHTS, "t", 1, -2, value=-2)
        self.refused(InvalidScheme, count_right, "t", -1)
        self.refused(InvalidScheme, right_at, "t", -1, -1)
        self.refused(InvalidNumber, right_at, HEIGHTS, 50, -1, value=50)
        self.refused(InvalidNumber, right_at, HEIGHTS, 5, -1, value=-1)

    def test_errors_of_the_generator_come_with_its_first_result(self):
        for arguments, error in (((None, None), InvalidScheme), ((HEIGHTS, 41), InvalidNumber)):
            made = each_right(*arguments)
            self.assertIs(type(caught(next, made)), error)

    def test_mirrored_schemes_have_as_many(self):
        for keys in range(15):
            self.assertEqual(count_right(mirrored_scheme(MIXED), keys), count_right(MIXED, keys))
