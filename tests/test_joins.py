"""Points 13.1 and 13.2, and the thirteenth stage: joins and splits."""

import itertools

from mendbooks.books.books import Book, mirrored_book
from mendbooks.errors import InvalidBook, InvalidNumber, InvalidShape, NoMend, TooMany
from mendbooks.mend.joins import join_shapes, join_steps, raise_shape, split_shape
from mendbooks.ranks.counts import each_right
from mendbooks.trees.shapes import Shape
from tests import chance, naive, naive_joins
from tests.books import FOURS, GLUE, RED_JOINS, REDS, TWOTHREE
from tests.cases import Case
from tests.samples import HEIGHTS, TOO_LONG, odd_values
from tests.schemes import rings
from tests.test_deeds import tower
from tests.test_least import shapes_until
from tests.test_tables import with_ranks

T = TWOTHREE.scheme
R = REDS.scheme
EMPTY = Shape(T, ())
TWO = Shape(T, (("two", (None, None)),))
THREE = Shape(T, (("three", (None, None, None)),))
FULL = Shape(T, (("two", (None, None)), ("two", (0, 0))))
RED = Shape(R, (("red", (None, None)),))
JOINS = (join_shapes, join_steps)
# Red-black trees with a join of black trees of one rank, which is right at the top alone.
ROOT = REDS.with_drawing("join b b +0 to ^red(. .)")


def twos(many):
    return Shape(T, tower(many, "two", 2))


class Beside(Case):

    def check_join(self, book, one, other):
        """Compares a join with the plainest way; returns the difference, and whether it is odd, or None if it fails."""
        left, right = naive.tree_of(one.rows), naive.tree_of(other.rows)
        try:
            new, used, _ = naive_joins.joined(book, left, right)
        except naive.Fails as error:
            for call in JOINS:
                self.refused(NoMend, call, book, one, other, where=error.place)
            return None
        joined = join_shapes(book, one, other)
        self.assertEqual((joined.scheme, joined.rows), (book.scheme, naive.plain_rows(new)))
        self.assertEqual((joined.is_right, joined.size), (True, one.size + other.size + 1))
        self.assertEqual(join_steps(book, one, other), used)
        return book[used[0][1]].place[3], len(used) > 1, len(used[0][0])

    def check_splits(self, book, shape):
        tree = naive.tree_of(shape.rows)
        done = 0
        for number in range(shape.size):
            try:
                parts = naive_joins.split(book, tree, number)
            except naive.Fails as error:
                self.refused(NoMend, split_shape, book, shape, number, where=error.place)
                continue
            found = split_shape(book, shape, number)
            self.assertEqual(tuple(part.rows for part in found), tuple(map(naive.plain_rows, parts)))
            self.assertEqual([part.size for part in found], [number, shape.size - number - 1])
            self.assertEqual([(part.is_right, part.scheme == book.scheme) for part in found], [(True, True)] * 2)
            done += 1
        return done

    def check_book(self, book, most):
        shapes, _ = shapes_until(book.scheme, most, 30)
        told = [self.check_join(book, one, other) for one, other in itertools.product(shapes, shapes)]
        return told, sum(self.check_splits(book, shape) for shape in shapes)

    def test_good_books(self):
        for book in (GLUE, mirrored_book(GLUE), FOURS):
            told, done = self.check_book(book, 9)
            self.assertNotIn(None, told)
            self.assertEqual({difference for difference, _, _ in told}, {0})
            # The place is a whole tree, or lies at any depth.
            self.assertTrue({0, 1, 2} <= {depth for _, _, depth in told})
            self.assertGreater(done, 60)

    def test_books_with_drawings_left_out(self):
        for drawing in GLUE.drawings[1:]:
            self.check_book(GLUE.without(drawing.line), 7)

    def test_places_that_are_red(self):
        for book in (RED_JOINS, mirrored_book(RED_JOINS)):
            told, done = self.check_book(book, 6)
            self.assertNotIn(None, told)
            self.assertEqual(done, sum(shape.size for shape in shapes_until(book.scheme, 6, 30)[0]))
            self.assertGreater(max(depth for _, _, depth in told), 1)
            # Most of them go on behind a red place, up to the top.
            shapes = [shape for keys in (7, 10) for shape in itertools.islice(each_right(book.scheme, keys), 40)]
            for one, other in zip(shapes, shapes[::-1]):
                self.assertIsNotNone(self.check_join(book, one, other))
                self.assertIsNotNone(self.check_join(book, one, Shape(book.scheme, ())))
                self.assertEqual(self.check_splits(book, one), one.size)

    def test_red_trees(self):
        for book in (ROOT, mirrored_book(ROOT)):
            told, done = self.check_book(book, 5)
            self.assertGreater(len([word for word in told if word is not None]), 20)
            self.assertGreater(done, 10)

    def test_books_by_chance(self):
        found = []
        done = 0
        for book in with_ranks(range(300, 360)):
            told, splits = self.check_book(book, 5)
            found += [word for word in told if word is not None]
            done += splits
        self.assertGreater(len(found), 50)
        self.assertGreater(done, 100)

    def test_great_differences(self):
        found = set()
        for number in range(20):
            book = chance.joining_book(number)
            shapes, _ = shapes_until(book.scheme, 6, 20)
            for one, other in itertools.product(shapes, shapes):
                told = self.check_join(book, one, other)
                found.add(told and told[:2])
        differences = {told[0] for told in found if told}
        self.assertEqual((differences, None in found), ({-2, -1, 0, 1, 2}, True))
        self.assertEqual({told[1] for told in found if told}, {False, True})

class Joined(Case):

    def test_example(self):
        self.assertEqual([join_shapes(GLUE, THREE, FULL).rows, join_steps(GLUE, FULL, EMPTY)], [
            (("three", (None, None, None)), ("two", (None, None)), ("three", (0, 1, 1))),
            (((1, 1), "join t t +0 to ^two(. .)"), ((1,), "mend two(. !+1:two(. .)) to three(. . .)"))])
        self.assertEqual([[part.size for part in split_shape(GLUE, FULL, 1)],
                          [part.rows for part in split_shape(GLUE, FULL, 0)]],
                         [[1, 1], [(), (("three", (None, None, None)),)]])

    def test_empty_trees(self):
        self.assertEqual(join_shapes(GLUE, EMPTY, EMPTY), TWO)
        self.assertEqual(join_steps(GLUE, EMPTY, EMPTY), (((), "join t t +0 to ^two(. .)"),))
        for shape in (TWO, THREE, FULL, twos(50)):
            for joined in (join_shapes(GLUE, EMPTY, shape), join_shapes(GLUE, shape, EMPTY)):
                self.assertEqual((joined.size, joined.is_right), (shape.size + 1, True))
        self.assertEqual(join_steps(GLUE, EMPTY, FULL)[0][0], (0, 0))
        self.assertEqual(join_steps(GLUE, FULL, EMPTY)[0][0], (1, 1))

    def test_a_join_that_is_not_odd(self):
        # The new tree has the rank of the old one, though the trees had none to spare.
        book = Book.from_lines("bare t", "tops t", "form two t t0 t0", "put two", "join t t +0 to two(. .)")
        chain = Shape(book.scheme, (("two", (None, None)), ("two", (0, None)), ("two", (1, None))))
        self.assertEqual(join_steps(book, chain, chain), (((), "join t t +0 to two(. .)"),))
        self.assertEqual(join_shapes(book, chain, chain).size, 7)

    def test_a_join_that_changes_only_the_sort(self):
        # The result has the sort of the other side; it is odd, as it is not that of the place.
        book = Book.from_lines("bare a", "tops a", "form e a a1 a1", "form f a a0 a0 a0", "form k c a0 a0",
                               "form p a a1 c1", "form q a c1 a1", "put ^e", "join k(. .) a +0 to f(. . .)",
                               "join a k(. .) +0 to f(. . .)", "mend p(. !+0:a) to e(. .)", "mend q(!+0:a .) to e(. .)")
        empty = Shape(book.scheme, ())
        last = Shape(book.scheme, (("k", (None, None)), ("p", (None, 0))))
        self.assertEqual(join_steps(book, last, empty), (
            ((1,), "join k(. .) a +0 to f(. . .)"), ((), "mend p(. !+0:a) to e(. .)")))
        first = Shape(book.scheme, (("k", (None, None)), ("q", (0, None))))
        self.assertEqual(join_steps(book, empty, first), (
            ((0,), "join a k(. .) +0 to f(. . .)"), ((), "mend q(!+0:a .) to e(. .)")))
        for one, other in ((last, empty), (empty, first)):
            self.assertEqual(join_shapes(book, one, other).rows, (
                ("f", (None, None, None)), ("e", (None, 0) if one is last else (0, None))))

    def test_the_top_behind_a_join(self):
        one = Shape(R, (("bb", (None, None)),))
        self.assertEqual(join_steps(ROOT, one, one), (
            ((), "join b b +0 to ^red(. .)"), ((), "top red(. .) to bb(. .)")))
        less = ROOT.without("top red(. .) to bb(. .)")
        for call in JOINS:
            self.refused(NoMend, call, less, one, one, where=("top", "red(. .)"))
        # Without marks the hand is a sort, and no drawing at the top is told a sort.
        plain = REDS.with_drawing("join b b +0 to red(. .)")
        self.refused(NoMend, join_shapes, plain, one, one, where=("top", "r"))

    def test_where_a_join_fails(self):
        self.refused(NoMend, join_shapes, TWOTHREE, FULL, TWO, where=("join", "t", "t", 0))
        less = GLUE.without("mend two(. !+1:two(. .)) to three(. . .)")
        self.refused(NoMend, join_shapes, less, FULL, TWO, where=("mend", "two", 1, 1, "two(. .)"))
        self.assertEqual(join_shapes(less, TWO, FULL).size, 5)
        # A side that a drawing opens is not there if this tree is empty.
        opened = TWOTHREE.with_drawing("join two(. .) t +0 to ^two(two(. .) .)")
        self.assertEqual(join_shapes(opened, TWO, TWO).size, 3)
        self.refused(NoMend, join_shapes, opened, EMPTY, EMPTY, where=("join", "t", "t", 0))
        self.refused(NoMend, join_shapes, opened, THREE, TWO, where=("join", "t", "t", 0))

    def test_great_shapes_with_shared_rows(self):
        high = Shape(T, tower(1200))
        for one, other in ((high, twos(700)), (twos(700), high), (high, high), (EMPTY, high), (high, TWO)):
            joined = join_shapes(GLUE, one, other)
            self.assertEqual((joined.size, joined.is_right), (one.size + other.size + 1, True))
        self.assertEqual(len(join_steps(GLUE, high, EMPTY)[0][0]), 1200)
        self.assertEqual(len(join_steps(GLUE, high, EMPTY)), 1201)
        self.assertEqual(len(join_steps(GLUE, twos(900), twos(400))), 2)

    def test_more_than_4000_rows(self):
        one, other = twos(2500), Shape(T, tower(2500))
        fewer = GLUE.without("mend three(!+1:two(. .) . .) to ^two(two(. .) two(. .))")
        for call in JOINS:
            self.refused(TooMany, call, GLUE, one, other, limit=4000)
            self.refused(TooMany, call, GLUE, twos(4000), Shape(T, tower(9)), limit=4000)
            self.refused(NoMend, call, TWOTHREE, one, other, where=("join", "t", "t", 0))
            self.refused(NoMend, call, fewer, twos(9), Shape(T, tower(4000)),
                         where=("mend", "three", 0, 1, "two(. .)"))
        self.assertEqual(len(join_shapes(GLUE, twos(3990), twos(3990))), 3991)


class Raised(Case):

    def test_right_shapes_stay(self):
        for book in (TWOTHREE, REDS, GLUE):
            for shape in each_right(book.scheme, 4):
                self.assertEqual(raise_shape(book, shape), shape)
            self.assertEqual(raise_shape(book, Shape(book.scheme, ())), Shape(book.scheme, ()))

    def test_sound_shapes(self):
        self.assertEqual(raise_shape(REDS, RED).rows, (("bb", (None, None)),))
        high = Shape(R, (("bb", (None, None)), ("red", (0, 0))))
        self.assertEqual(raise_shape(REDS, high).rows, (("bb", (None, None)), ("bb", (0, 0))))
        both = Shape(R, (("red", (None, None)), ("lred", (0, None))))
        self.refused(NoMend, raise_shape, REDS, both, where=("top", "lred(. .)"))
        # What tells more of the tree than the form at its top raises nothing.
        more = REDS.without("top red(. .) to bb(. .)").with_drawing("top lred(red(. .) .) to rb(red(. .) .)")
        self.refused(NoMend, raise_shape, more, both, where=("top", "lred(. .)"))
        self.refused(NoMend, raise_shape, more, RED, where=("top", "red(. .)"))

    def test_shapes_that_are_not_sound(self):
        lean = Shape(T, (("two", (None, None)), ("two", (0, None))))
        for value in (lean, Shape(HEIGHTS, ()), RED, TWO.rows, None):
            self.refused(InvalidShape, raise_shape, TWOTHREE, value)
        self.refuses_odd(InvalidShape, lambda value: raise_shape(TWOTHREE, value),
                         lambda value: isinstance(value, Shape) and value.scheme == T)

    def test_4000_rows(self):
        book = Book.from_lines("bare a", "tops a", "form x a a0 a0", "form y b a0 a0", "put x",
                               "top y(. .) to x(. .)")
        rows = tuple(("x", (None if row == 0 else row - 1, None)) for row in range(3999))
        shape = Shape(book.scheme, (*rows, ("y", (3998, None))))
        self.assertEqual(len(raise_shape(book, shape)), 4000)


class Split(Case):

    def test_first_and_last_key(self):
        for shape in (TWO, THREE, FULL, *each_right(T, 11)):
            left, right = split_shape(GLUE, shape, 0)
            self.assertEqual((left, right.size), (EMPTY, shape.size - 1))
            left, right = split_shape(GLUE, shape, shape.size - 1)
            self.assertEqual((left.size, right), (shape.size - 1, EMPTY))
            for number in (-1, shape.size, shape.size + 1, TOO_LONG, True, None, "0"):
                self.refused(InvalidNumber, split_shape, GLUE, shape, number, value=number)
        self.refused(InvalidNumber, split_shape, GLUE, EMPTY, 0, value=0)

    def test_splits_without_joins(self):
        self.assertEqual(split_shape(TWOTHREE, TWO, 0), (EMPTY, EMPTY))
        self.assertEqual(split_shape(TWOTHREE, FULL, 1), (TWO, TWO))
        self.refused(NoMend, split_shape, TWOTHREE, FULL, 0, where=("join", "t", "t", 0))

    def test_which_child_is_raised_first(self):
        # From left to right, the left part ahead of the right one, and each child directly ahead of its join.
        lines = ("bare b", "tops b", "form bb b b1 b1", "form wide b b1 p1 q1 b1", "form pp p b0 b0", "form qq q b0 b0",
                 "form xx b b0 b0", "put ^bb")
        book = Book.from_lines(*lines)
        rows = (("bb", (None, None)), ("pp", (0, 0)), ("qq", (0, 0)), ("wide", (0, 1, 2, 0)))
        shape = Shape(book.scheme, rows)
        self.assertIs(shape.is_right, True)
        # At the key behind the third child, the second one is raised and joined ahead of the third one.
        more = book.with_drawing("top pp(. .) to xx(. .)")
        both = more.with_drawing("top qq(. .) to xx(. .)")
        number = shape.size - 2
        self.assertEqual(shape.key_at(number), ((), 2))
        self.refused(NoMend, split_shape, book, shape, number, where=("top", "pp(. .)"))
        self.refused(NoMend, split_shape, more, shape, number, where=("join", "b", "b", 0))
        fine = more.with_drawing("join b b +0 to ^bb(. .)")
        self.refused(NoMend, split_shape, fine, shape, number, where=("top", "qq(. .)"))
        self.refused(NoMend, split_shape, both.with_drawing("join b b +0 to ^bb(. .)"), shape, number,
                     where=("mend", "bb", 1, 1, "bb(. .)"))
        # At the first key the parts to the right are raised, and nothing to the left of it.
        self.refused(NoMend, split_shape, book, shape, 1, where=("top", "pp(. .)"))
        self.refused(NoMend, split_shape, fine, shape, 1, where=("top", "qq(. .)"))
        # Below the last child the left part grows first; there is nothing to its right.
        self.refused(NoMend, split_shape, book, shape, shape.size - 1, where=("top", "pp(. .)"))

    def test_great_shapes(self):
        high = Shape(T, tower(800))
        for number in (0, 1, 10 ** 59, 3 ** 90):
            left, right = split_shape(GLUE, high, number)
            self.assertEqual((left.size, right.size), (number, high.size - number - 1))
            self.assertEqual((left.is_right, right.is_right), (True, True))
        left, right = split_shape(GLUE, twos(900), 12345)
        self.assertEqual((left.size, left.is_right, right.is_right), (12345, True, True))

    def test_keys_come_together_again(self):
        for shape in each_right(T, 12):
            for number in range(12):
                left, right = split_shape(GLUE, shape, number)
                self.assertEqual(join_shapes(GLUE, left, right).size, 12)


class Wrong(Case):

    def test_books(self):
        for value in odd_values():
            if not isinstance(value, Book):
                for call in (*JOINS, split_shape):
                    self.refused(InvalidBook, call, value, TWO, TWO)
                    self.refused(InvalidBook, call, value, None, None)
                self.refused(InvalidBook, raise_shape, value, None)

    def test_shapes(self):
        lean = Shape(T, (("two", (None, None)), ("two", (0, None))))
        for value in [*odd_values(), lean, Shape(HEIGHTS, ()), RED, TWO.rows]:
            if isinstance(value, Shape) and value == TWO:
                continue
            for call in JOINS:
                self.refused(InvalidShape, call, GLUE, value, TWO)
                self.refused(InvalidShape, call, GLUE, TWO, value)
                self.refused(InvalidShape, call, TWOTHREE, value, None)
            self.refused(InvalidShape, split_shape, GLUE, value, 0)
            self.refused(InvalidShape, split_shape, GLUE, value, None)
        for call in JOINS:
            self.refused(InvalidShape, call, REDS, RED, Shape(R, ()))
            self.refused(InvalidShape, call, REDS, Shape(R, ()), RED)
        self.refused(InvalidShape, split_shape, REDS, RED, 0)

    def test_numbers(self):
        for value in odd_values():
            if not (isinstance(value, int) and not isinstance(value, bool) and 0 <= value < 3):
                self.refused(InvalidNumber, split_shape, GLUE, FULL, value, value=value)
                self.refused(InvalidNumber, split_shape, TWOTHREE, FULL, value, value=value)

    def test_periods_do_not_matter(self):
        late = Book.from_lines(*rings(3).lines, "put ^se", "join z z +0 to ^se(. .)")
        self.assertRaises(NoMend, join_shapes, late, Shape(late.scheme, ()), Shape(late.scheme, ()))

    def test_nothing_changes(self):
        kept = (FULL.rows, THREE.rows, GLUE.lines)
        for _ in range(2):
            self.assertEqual(join_shapes(GLUE, THREE, FULL), join_shapes(GLUE, THREE, FULL))
            self.assertEqual(split_shape(GLUE, FULL, 2), split_shape(GLUE, FULL, 2))
        self.assertEqual((FULL.rows, THREE.rows, GLUE.lines), kept)
