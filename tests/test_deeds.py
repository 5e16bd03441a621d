"""Points 0.15, 0.16 and 10.1, and the tenth stage: deeds."""

from mendbooks.base.forms import Scheme
from mendbooks.books.books import Book, mirrored_book
from mendbooks.errors import InvalidBook, InvalidNumber, InvalidOperation, InvalidShape, NoMend, TooMany
from mendbooks.mend.deeds import cut, failing_place, fresh_nodes, is_deed, put, steps
from mendbooks.ranks.counts import each_right
from mendbooks.trees.shapes import Shape
from tests import chance, naive
from tests.books import GLUE, REDS, TWOTHREE, balanced_book
from tests.cases import Case
from tests.samples import HEIGHTS, TOO_LONG, odd_values

T = TWOTHREE.scheme
R = REDS.scheme
EMPTY = Shape(T, ())
TWO = Shape(T, (("two", (None, None)),))
THREE = Shape(T, (("three", (None, None, None)),))
FULL = Shape(T, (("two", (None, None)), ("two", (0, 0))))
ONE_RED = Shape(R, (("red", (None, None)), ("rb", (0, None))))
CALLS = (steps, failing_place, fresh_nodes)


def tower(many, name="three", width=3):
    return tuple((name, (None,) * width if row == 0 else (row - 1,) * width) for row in range(many))


class Beside(Case):

    def check_book(self, book, most, each=1):
        """Compares all deeds in small trees with the plainest way; returns how many are done, and how many fail."""
        done = fails = 0
        for keys in range(most + 1):
            for shape in list(each_right(book.scheme, keys))[::each]:
                tree = naive.tree_of(shape.rows)
                for deed in [(kind, gap) for kind in ("put", "cut") for gap in range(keys + 1)]:
                    if deed[0] == "put" or keys > 0:
                        ended = self.check_deed(book, shape, tree, deed)
                        done, fails = done + ended, fails + (not ended)
        return done, fails

    def check_deed(self, book, shape, tree, deed):
        kind, gap = deed
        call = put if kind == "put" else cut
        self.assertIs(is_deed(shape, deed), True)
        try:
            new, used = naive.done(book, tree, deed)
        except naive.Fails as error:
            self.assertEqual(failing_place(book, shape, deed), error.place)
            self.refused(NoMend, call, book, shape, gap, where=error.place)
            self.refused(NoMend, steps, book, shape, deed, where=error.place)
            self.refused(NoMend, fresh_nodes, book, shape, deed, where=error.place)
            return False
        left = call(book, shape, gap)
        self.assertEqual((left.scheme, left.rows), (book.scheme, naive.plain_rows(new)))
        self.assertEqual((left.is_right, left.size), (True, shape.size + (1 if kind == "put" else -1)))
        self.assertEqual(steps(book, shape, deed), used)
        self.assertIsNone(failing_place(book, shape, deed))
        self.assertEqual(fresh_nodes(book, shape, deed), naive.fresh_nodes(tree, new))
        return True

    def test_good_books(self):
        done, fails = self.check_book(TWOTHREE, 9)
        self.assertEqual(fails, 0)
        self.assertGreater(done, 300)
        self.check_book(mirrored_book(TWOTHREE), 6)

    def test_good_puts(self):
        for book in (REDS, balanced_book()):
            self.check_book(book, 7, 3)
            for keys in range(7):
                for shape in each_right(book.scheme, keys):
                    for gap in range(keys + 1):
                        self.assertIs(put(book, shape, gap).is_right, True)

    def test_books_with_drawings_left_out(self):
        for book, most in ((TWOTHREE, 6), (REDS, 4)):
            for drawing in book.drawings[1:]:
                done, fails = self.check_book(book.without(drawing.line), most)
                self.assertGreater(min(done, fails), 0)

    def test_books_by_chance(self):
        done = fails = 0
        for number in range(60):
            ended = self.check_book(chance.book_of(number, tries=80), 4)
            done, fails = done + ended[0], fails + ended[1]
        self.assertGreater(min(done, fails), 50)

    def test_marks_left_out(self):
        self.check_book(TWOTHREE.with_drawing("put two"), 4)
        scheme = Scheme.from_lines("bare t", "tops t", "form two t t0 t0")
        book = Book.from_lines(*scheme.lines, "put two", "cut two(x .) to .", "cut two(. x) to .")
        done, fails = self.check_book(book, 6)
        self.assertEqual(fails, 0)


class Steps(Case):

    def test_example(self):
        self.assertEqual(steps(TWOTHREE, THREE, ("put", 1)), (
            ((1,), "put ^two"), ((), "mend three(. !+1:two(. .) .) to ^two(two(. .) two(. .))")))
        self.assertEqual(steps(TWOTHREE, EMPTY, ("put", 0)), (((), "put ^two"),))
        self.assertEqual(steps(TWOTHREE, TWO, ("cut", 1)), (((), "cut two(. x) to ."),))

    def test_drawing_at_the_top_behind_another_one_there(self):
        self.assertEqual(steps(REDS, Shape(R, ()), ("put", 0)), (((), "put ^red"), ((), "top red(. .) to bb(. .)")))
        both = Shape(R, (("red", (None, None)), ("rr", (0, 0))))
        self.assertEqual(steps(REDS, both, ("put", 0)), (
            ((0, 0), "put ^red"), ((0,), "mend red(!+0:red(. .) .) to ^lred(^red(. .) .)"),
            ((), "mend rr(!+0:lred(red(. .) .) red(. .)) to ^red(rb(red(. .) .) bb(. .))"),
            ((), "top red(. .) to bb(. .)")))
        self.assertEqual(put(REDS, both, 0).rows, (
            ("red", (None, None)), ("rb", (0, None)), ("bb", (None, None)), ("bb", (1, 2))))
        # The red node of the last mend is eaten by the top drawing.
        self.assertEqual(fresh_nodes(REDS, both, ("put", 0)), 4)

    def test_fresh_nodes(self):
        self.assertEqual(fresh_nodes(TWOTHREE, FULL, ("cut", 3)), 1)
        self.assertEqual(fresh_nodes(TWOTHREE, FULL, ("put", 3)), 2)
        self.assertEqual(fresh_nodes(TWOTHREE, EMPTY, ("put", 0)), 1)
        self.assertEqual(fresh_nodes(TWOTHREE, TWO, ("cut", 0)), 0)
        # The hand is eaten by the next drawing: of both nodes of the put and the mend one is left, with those above.
        self.assertEqual(fresh_nodes(TWOTHREE, THREE, ("put", 1)), 3)
        great = Shape(T, (("two", (None, None)), *(("two", (row, row)) for row in range(9))))
        self.assertEqual(fresh_nodes(TWOTHREE, great, ("put", 0)), 1 + 9)


class Fails(Case):

    def test_at_the_first_drawing(self):
        less = TWOTHREE.without("cut two(x .) to .")
        self.assertEqual(failing_place(less, FULL, ("cut", 2)), ("cut", "two", 0))
        self.assertEqual(failing_place(less, TWO, ("cut", 0)), ("cut", "two", 0))
        self.assertIsNone(failing_place(less, FULL, ("cut", 1)))
        self.refused(NoMend, cut, less, TWO, 0, where=("cut", "two", 0))

    def test_at_a_later_one(self):
        less = TWOTHREE.without("mend two(!-1:t two(. .)) to three(. . .)")
        self.assertEqual(failing_place(less, FULL, ("cut", 0)), ("mend", "two", 0, -1, "t"))
        low = Shape(T, (("two", (None, None)), ("three", (None, None, None)), ("two", (0, 1))))
        self.assertIsNone(failing_place(less, low, ("cut", 0)))
        self.refused(NoMend, steps, less, FULL, ("cut", 0), where=("mend", "two", 0, -1, "t"))

    def test_at_the_top(self):
        less = REDS.without("top red(. .) to bb(. .)")
        self.assertEqual(failing_place(less, Shape(R, ()), ("put", 0)), ("top", "red(. .)"))
        self.refused(NoMend, put, less, Shape(R, ()), 0, where=("top", "red(. .)"))
        sort = REDS.with_drawing("put red")
        self.assertEqual(failing_place(sort, Shape(R, ()), ("put", 0)), ("top", "r"))
        self.assertEqual(failing_place(REDS, ONE_RED, ("cut", 2)), ("cut", "rb", 1))

    def test_ranks_of_whole_trees_do_not_matter(self):
        self.assertEqual(put(TWOTHREE, THREE, 0).spot, ("t", 2))
        self.assertEqual(cut(TWOTHREE, FULL, 0).spot, ("t", 1))

    def test_empty_trees_fit_where_nothing_is_opened(self):
        book = TWOTHREE.without("cut two(x .) to .").with_drawing("cut two(x two(. .)) to two(. .)")
        self.assertEqual(failing_place(book, TWO, ("cut", 0)), ("cut", "two", 0))


class Great(Case):

    def test_great_shapes_of_few_rows(self):
        shape = Shape(T, tower(1300))
        for gap in (0, 1, 10 ** 59, 3 ** 100, shape.size if shape.size < TOO_LONG else 5):
            left = put(TWOTHREE, shape, gap)
            self.assertEqual((left.is_right, left.size, left.spot), (True, shape.size + 1, ("t", 1301)))
            self.assertEqual(len(steps(TWOTHREE, shape, ("put", gap))), 1301)
            self.assertEqual(cut(TWOTHREE, shape, gap).size, shape.size - 1)
        twos = Shape(T, tower(1300, "two", 2))
        left = cut(TWOTHREE, twos, 12345)
        self.assertEqual((left.is_right, left.size, left.spot), (True, twos.size - 1, ("t", 1299)))
        self.assertEqual(steps(TWOTHREE, twos, ("cut", 7))[-1][0], ())

    def test_shapes_of_4000_rows(self):
        twos = Shape(T, tower(4000, "two", 2))
        left = put(TWOTHREE, Shape(T, tower(1999, "two", 2)), 77)
        self.assertEqual((len(left), left.is_right), (3998 - 1, True))
        self.refused(TooMany, put, TWOTHREE, twos, 77, limit=4000)
        self.assertEqual(len(steps(TWOTHREE, twos, ("put", 77))), 2)
        self.assertEqual(fresh_nodes(TWOTHREE, twos, ("put", 77)), 4000)
        self.assertIsNone(failing_place(TWOTHREE, twos, ("put", 77)))
        self.assertEqual(len(steps(TWOTHREE, twos, ("cut", 77))), 4000)
        chain = Scheme.from_lines("bare t", "tops t", "form two t t0 t0")
        book = Book.from_lines(*chain.lines, "put two", "cut two(x .) to .", "cut two(. x) to .")
        high = Shape(chain, tuple(("two", (None if row == 0 else row - 1, None)) for row in range(4000)))
        self.assertEqual(cut(book, high, 0).size, 3999)
        self.refused(TooMany, put, book, high, 0, limit=4000)
        self.assertEqual(len(put(book, high, 4000)), 4000)

    def test_failing_comes_ahead_of_too_many_rows(self):
        twos = Shape(T, tower(4000, "two", 2))
        less = TWOTHREE.without("mend two(!+1:two(. .) .) to three(. . .)")
        self.refused(NoMend, put, less, twos, 0, where=("mend", "two", 0, 1, "two(. .)"))

    def test_long_ways(self):
        threes = Shape(T, tower(4000))
        used = steps(TWOTHREE, threes, ("put", 0))
        self.assertEqual((len(used), used[0][0], used[-1][0]), (4001, (0,) * 4000, ()))


class Gaps(Case):

    def test_first_and_last_gap(self):
        for shape in (TWO, THREE, FULL):
            for gap in (0, shape.size):
                self.assertEqual(put(TWOTHREE, shape, gap).size, shape.size + 1)
                self.assertEqual(cut(TWOTHREE, shape, gap).size, shape.size - 1)
            for gap in (-1, shape.size + 1, TOO_LONG):
                self.refused(InvalidNumber, put, TWOTHREE, shape, gap, value=gap)
                self.refused(InvalidNumber, cut, TWOTHREE, shape, gap, value=gap)
                for kind in ("put", "cut"):
                    for call in CALLS:
                        self.refused(InvalidOperation, call, TWOTHREE, shape, (kind, gap))

    def test_empty_tree(self):
        self.assertEqual(put(TWOTHREE, EMPTY, 0), TWO)
        self.refused(InvalidOperation, cut, TWOTHREE, EMPTY, 0)
        self.refused(InvalidNumber, cut, TWOTHREE, EMPTY, 1, value=1)
        self.refused(InvalidNumber, put, TWOTHREE, EMPTY, 1, value=1)
        for call in CALLS:
            self.refused(InvalidOperation, call, TWOTHREE, EMPTY, ("cut", 0))
        self.assertEqual(cut(TWOTHREE, TWO, 1), EMPTY)

    def test_is_deed(self):
        unsound = Shape(HEIGHTS, (("left", (None, None)),))
        for shape in (EMPTY, TWO, FULL, unsound, Shape(R, (("red", (None, None)),))):
            for gap in range(-2, shape.size + 4):
                is_gap = 0 <= gap <= shape.size
                self.assertIs(self.judged(is_deed, shape, ("put", gap)), is_gap)
                self.assertIs(self.judged(is_deed, shape, ("cut", gap)), is_gap and shape.size > 0)
        for value in [*odd_values(), ("put", True), ("put", False), ("put", "0"), ["put", 0], ("put", 0, 0), ("put",),
                      ("join", 0), (0, "put"), (["put"], 0), ("put", None), ("Put", 0), ("put", TOO_LONG)]:
            told = repr(value) in ("('put', 0)", "('cut', 0)")
            self.assertIs(self.judged(is_deed, TWO, value), told)
        self.refuses_odd(InvalidShape, lambda value: is_deed(value, ("put", 0)), lambda value: isinstance(value, Shape))
        self.refused(InvalidShape, is_deed, None, None)
        self.assertIs(is_deed(Shape(T, tower(4000)), ("cut", 10 ** 59)), True)


class Wrong(Case):

    def test_books(self):
        for value in odd_values():
            if not isinstance(value, Book):
                for call in (put, cut):
                    self.refused(InvalidBook, call, value, TWO, 0)
                for call in CALLS:
                    self.refused(InvalidBook, call, value, TWO, ("put", 0))

    def test_shapes(self):
        wrong = [Shape(HEIGHTS, ()), Shape(R, ()), Shape(T, (("two", (None, None)), ("two", (0, None)))), TWO.rows]
        for value in [*odd_values(), *wrong]:
            if value == TWO:
                continue
            for call in (put, cut):
                self.refused(InvalidShape, call, TWOTHREE, value, 0)
            for call in CALLS:
                self.refused(InvalidShape, call, TWOTHREE, value, ("put", 0))
        red = Shape(R, (("red", (None, None)),))
        self.refused(InvalidShape, put, REDS, red, 0)
        self.refused(InvalidShape, steps, REDS, red, ("put", 0))

    def test_gaps_and_deeds(self):
        for value in odd_values():
            fine = isinstance(value, int) and not isinstance(value, bool) and 0 <= value <= 1
            if not fine:
                self.refused(InvalidNumber, put, TWOTHREE, TWO, value, value=value)
                self.refused(InvalidNumber, cut, TWOTHREE, TWO, value, value=value)
            if repr(value) not in ("('put', 0)", "('cut', 0)"):
                for call in CALLS:
                    self.refused(InvalidOperation, call, TWOTHREE, TWO, value)

    def test_first_wrong_argument_decides(self):
        for call in (put, cut, *CALLS):
            self.refused(InvalidBook, call, None, None, None)
            self.refused(InvalidShape, call, TWOTHREE, None, None)
        self.refused(InvalidNumber, cut, TWOTHREE.without("cut two(x .) to ."), TWO, 7, value=7)

    def test_nothing_changes(self):
        kept = (FULL.rows, GLUE.lines, TWOTHREE.lines)
        for gap in range(4):
            put(GLUE, FULL, gap)
            cut(GLUE, FULL, gap)
            steps(TWOTHREE, FULL, ("put", gap))
        self.assertEqual((FULL.rows, GLUE.lines, TWOTHREE.lines), kept)
        self.assertEqual(put(TWOTHREE, FULL, 2), put(TWOTHREE, FULL, 2))
