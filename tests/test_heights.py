"""The ninth stage: heights."""

from mendbooks.base.forms import Scheme
from mendbooks.errors import InvalidNumber, InvalidScheme, TooMany
from mendbooks.ranks import heights
from mendbooks.ranks.heights import greatest_height, least_height, least_keys, most_keys, tall_tree
from mendbooks.ranks.ranks import Ranks
from tests import chance, naive
from tests.books import REDS
from tests.cases import Case
from tests.samples import HEIGHTS, LONGEST, REDBLACK, TOO_LONG, TWOTHREE, odd_values
from tests.schemes import CLIMB, EACH, HIDDEN, LEVEL, SOME, THIRDS, rings

# A scheme with a highest tree.
FINITE = Scheme.from_lines("bare a", "tops a c", "form x b a1 a1", "form y c b1 b1 b1", "form z d c1 c1")


def schemes():
    known = [(EACH, 8), (TWOTHREE, 9), (THIRDS, 7), (SOME, 6), (LEVEL, 6), (HIDDEN, 6), (REDBLACK, 7), (REDS.scheme, 7),
             (FINITE, 7), (CLIMB, 5)]
    return known + [(scheme, 5) for scheme in map(chance.scheme_of, range(25)) if has_ranks(scheme)]


def has_ranks(scheme):
    try:
        Ranks(scheme)
    except TooMany:
        return False
    return True


def is_count(value):
    return isinstance(value, int) and not isinstance(value, bool) and 0 <= value < TOO_LONG


class Heights(Case):

    def test_constant(self):
        self.assertEqual(heights.MAX_HEIGHT, 100)

    def test_beside_trees_made_by_force(self):
        for scheme, most in schemes():
            told = [(naive.height_of(tree), keys) for keys, trees in enumerate(naive.sound_trees(scheme, most))
                    for tree in trees if naive.is_right(scheme, tree)]
            for height in range(8):
                least = [keys for high, keys in told if high >= height]
                found = least_keys(scheme, height)
                self.assertTrue(found == min(least) if least else found is None or found > most, scheme.lines)
            for height in range(4):
                greatest = most_keys(scheme, height)
                if greatest <= most:
                    self.assertEqual(greatest, max(keys for high, keys in told if high <= height))
                else:
                    self.assertTrue(all(keys <= greatest for high, keys in told if high <= height))
            for keys in range(most + 1):
                self.assertEqual(greatest_height(scheme, keys), max(high for high, many in told if many <= keys))

    def test_greatest_numbers_of_keys(self):
        for scheme, width in ((EACH, 2), (TWOTHREE, 3), (LEVEL, 2)):
            for height in (0, 1, 2, 5, 100):
                self.assertEqual(most_keys(scheme, height), width ** height - 1)
        self.assertEqual([most_keys(REDS.scheme, height) for height in range(4)], [0, 1, 3, 7])
        self.assertEqual([most_keys(THIRDS, height) for height in range(6)], [0, 0, 3, 3, 15, 15])

    def test_each_height_beside_the_others(self):
        for scheme, _ in schemes():
            for height in range(7):
                keys = most_keys(scheme, height)
                low = least_height(scheme, keys)
                self.assertTrue(low <= height and most_keys(scheme, low) == keys)
                self.assertTrue(low == 0 or most_keys(scheme, low - 1) < keys)
                least = least_keys(scheme, height)
                if least is not None:
                    self.assertGreaterEqual(greatest_height(scheme, least), height)
                    self.assertTrue(height == 0 or greatest_height(scheme, least - 1) < height)

    def test_no_key_and_no_height(self):
        for scheme, _ in schemes():
            self.assertEqual((least_keys(scheme, 0), most_keys(scheme, 0)), (0, 0))
            self.assertEqual((greatest_height(scheme, 0), least_height(scheme, 0)), (0, 0))
            self.assertEqual(tall_tree(scheme, 0).rows, ())

    def test_heights_of_100_and_101(self):
        fibonacci = [0, 1]
        while len(fibonacci) < 102:
            fibonacci.append(fibonacci[-1] + fibonacci[-2] + 1)
        self.assertEqual([least_keys(HEIGHTS, height) for height in range(101)], fibonacci[:101])
        self.assertEqual(greatest_height(HEIGHTS, fibonacci[100]), 100)
        self.assertEqual(greatest_height(HEIGHTS, fibonacci[101] - 1), 100)
        self.refused(TooMany, greatest_height, HEIGHTS, fibonacci[101], limit=100)
        self.refused(TooMany, tall_tree, HEIGHTS, fibonacci[101], limit=100)
        self.assertEqual(tall_tree(HEIGHTS, fibonacci[101] - 1).height, 100)
        for call in (least_keys, most_keys):
            self.refused(InvalidNumber, call, HEIGHTS, 101, value=101)
            self.refused(InvalidNumber, call, HEIGHTS, -1, value=-1)

    def test_nodes_with_the_step_0(self):
        self.assertEqual([least_keys(LEVEL, height) for height in (0, 1, 50, 100)], [0, 1, 50, 100])
        self.assertEqual([greatest_height(LEVEL, keys) for keys in (0, 1, 99, 100)], [0, 1, 99, 100])
        self.refused(TooMany, greatest_height, LEVEL, 101, limit=100)
        self.refused(TooMany, tall_tree, LEVEL, LONGEST, limit=100)

    def test_scheme_with_a_highest_tree(self):
        self.assertEqual([least_keys(FINITE, height) for height in range(5)], [0, 5, 5, None, None])
        self.assertEqual([most_keys(FINITE, height) for height in (0, 1, 2, 3, 100)], [0, 0, 5, 5, 5])
        self.assertEqual([greatest_height(FINITE, keys) for keys in (0, 4, 5, 6, LONGEST)], [0, 0, 2, 2, 2])
        self.assertEqual([least_height(FINITE, keys) for keys in (0, 1, 5, 6, LONGEST)], [0, 2, 2, None, None])
        self.assertEqual(tall_tree(FINITE, LONGEST).size, 5)

    def test_great_numbers_of_keys(self):
        self.assertEqual(greatest_height(TWOTHREE, 2 ** 100 - 1), 100)
        self.assertEqual(greatest_height(TWOTHREE, 2 ** 100 - 2), 99)
        self.assertEqual(least_height(TWOTHREE, 3 ** 100 - 1), 100)
        self.assertEqual(least_height(TWOTHREE, 3 ** 100), None)
        self.assertEqual(least_height(TWOTHREE, LONGEST), None)
        self.assertEqual(least_height(HEIGHTS, 2 ** 100 - 1), 100)
        self.assertEqual(least_height(HEIGHTS, 2 ** 100), None)
        self.refused(TooMany, greatest_height, TWOTHREE, LONGEST, limit=100)

    def test_ways_that_climb(self):
        # A tree with one node is part of no smaller right tree than this one.
        self.assertEqual(least_keys(CLIMB, 1), least_keys(CLIMB, 4))
        self.assertEqual(least_keys(CLIMB, 1), 15)
        self.assertEqual(least_keys(CLIMB, 5), 255)
        self.assertEqual([least_keys(HIDDEN, height) for height in range(5)], [0, 1, 3, 7, 15])


class Tall(Case):

    def test_tall_trees(self):
        for scheme, most in schemes():
            for keys in (*range(most + 1), 30, 1000):
                try:
                    height = greatest_height(scheme, keys)
                except TooMany:
                    self.refused(TooMany, tall_tree, scheme, keys, limit=100)
                    continue
                shape = tall_tree(scheme, keys)
                self.assertEqual((shape.is_right, shape.height, shape.scheme), (True, height, scheme))
                self.assertLessEqual(shape.size, keys)

    def test_great_tree(self):
        shape = tall_tree(HEIGHTS, 10 ** 20)
        self.assertEqual((shape.height, shape.is_right, shape.size <= 10 ** 20), (95, True, True))


class Wrong(Case):

    def test_schemes(self):
        for call in (least_keys, most_keys, greatest_height, least_height, tall_tree):
            self.refuses_odd(InvalidScheme, lambda value: call(value, 3), lambda value: isinstance(value, Scheme))
            self.refused(InvalidScheme, call, None, -1)

    def test_heights(self):
        for call in (least_keys, most_keys):
            self.refuses_odd(InvalidNumber, lambda value: call(TWOTHREE, value),
                             lambda value: is_count(value) and value <= 100, keeps="value")

    def test_keys(self):
        for call in (greatest_height, least_height, tall_tree):
            for value in odd_values():
                if not is_count(value):
                    self.refused(InvalidNumber, call, FINITE, value, value=value)
                else:
                    call(FINITE, value)
            self.refused(InvalidNumber, call, rings(3), -1, value=-1)

    def test_schemes_that_repeat_too_late(self):
        for call in (least_keys, most_keys, greatest_height, least_height, tall_tree):
            self.refused(TooMany, call, rings(3), 0, limit=100)
            self.refused(InvalidNumber, call, rings(3), True, value=True)
        self.assertEqual(least_keys(rings(1), 1), None)
