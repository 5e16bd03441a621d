"""Points 14.1 and 14.2, and the fourteenth stage: joins of all trees."""

import itertools

from mendbooks.base.forms import Scheme
from mendbooks.books.books import Book, mirrored_book
from mendbooks.decide.joins import is_join_paper, join_paper, unraised
from mendbooks.decide.least import is_good, is_paper, least_bad
from mendbooks.decide.tables import Table, beside, is_beside
from mendbooks.errors import InvalidBook, InvalidOperation, NoMend, TooMany
from mendbooks.mend.joins import join_shapes, split_shape
from mendbooks.ranks.counts import each_right
from mendbooks.ranks.ranks import Ranks
from mendbooks.trees.shapes import Shape
from tests import chance, naive, naive_joins
from tests.books import FOURS, GLUE, RED_JOINS, REDS, TWOTHREE
from tests.cases import Case
from tests.closure import Closure
from tests.samples import odd_values
from tests.schemes import rings
from tests.test_joins import ROOT
from tests.test_least import TOPLESS, keys_of, least_by_force, shapes_until
from tests.test_tables import LESS, LEVEL, wide_book, with_ranks

LEFT, RIGHT = Table(GLUE, "left").rows, Table(GLUE, "right").rows
TWO = (("two", (None, None)),)


class Papers(Case):

    def test_examples(self):
        self.assertEqual([Table(GLUE, "left").starts[0], len(Table(GLUE, "left")), is_good(GLUE, "right"),
                          unraised(GLUE)], [("join", "t", "t", 0, 0), 25, True, ()])
        self.assertEqual([join_paper(TWOTHREE), is_join_paper(GLUE, ("good", LEFT, RIGHT))], [("bad", (), ()), True])

    def test_good_books(self):
        for book in (GLUE, mirrored_book(GLUE), FOURS, RED_JOINS, mirrored_book(RED_JOINS)):
            told = join_paper(book)
            self.assertEqual(told, ("good", Table(book, "left").rows, Table(book, "right").rows))
            self.assertIs(self.judged(is_join_paper, book, told), True)

    def check_bad(self, book):
        """Compares the bad paper of a book with plain force; returns whether it was found by it."""
        told = join_paper(book)
        if told[0] == "good":
            self.assertEqual([least_bad(book, kind) for kind in ("left", "right")], [None, None])
            return False
        one, other = [Shape(book.scheme, rows) for rows in told[1:]]
        self.assertIs(self.judged(is_join_paper, book, told), True)
        self.assertEqual([is_paper(book, "left", told), is_paper(book, "right", told)].count(True), 1)
        self.assertRaises(NoMend, join_shapes, book, one, other)
        pairs = [least_bad(book, kind) for kind in ("left", "right")]
        self.assertEqual(one.size + other.size, min(keys_of(pair) for pair in pairs if pair is not None))
        found = [least_by_force(book, kind, 5) for kind in ("left", "right")]
        least = min([keys for keys, _ in found if keys is not None], default=None)
        if one.size + other.size <= found[0][1]:
            self.assertEqual(one.size + other.size, least)
            return True
        self.assertTrue(least is None or least >= one.size + other.size)
        return False

    def test_bad_papers_by_force(self):
        found = [self.check_bad(book) for book in (
            TWOTHREE, LEVEL, ROOT, mirrored_book(ROOT), *[GLUE.without(drawing.line) for drawing in GLUE.drawings[1:]],
            *[RED_JOINS.without(drawing.line) for drawing in RED_JOINS.drawings[1:]],
            *with_ranks(range(800, 830)), *[chance.joining_book(number) for number in range(12)])]
        self.assertGreater(found.count(True), 30)

    def test_the_kind_with_fewer_keys(self):
        # To the right, trees of two and of three ranks are joined; to the left, trees of equal ranks.
        one_side = GLUE.without("mend two(!+1:two(. .) .) to three(. . .)")
        self.assertEqual([is_good(one_side, kind) for kind in ("left", "right")], [True, False])
        self.assertEqual(join_paper(one_side), ("bad", (), TWO))
        other_side = GLUE.without("mend two(. !+1:two(. .)) to three(. . .)")
        self.assertEqual([is_good(other_side, kind) for kind in ("left", "right")], [False, True])
        self.assertEqual(join_paper(other_side), ("bad", TWO, ()))
        neither = one_side.without("mend two(. !+1:two(. .)) to three(. . .)")
        self.assertIn(join_paper(neither), (("bad", (), TWO), ("bad", TWO, ())))
        for told in (("bad", (), TWO), ("bad", TWO, ())):
            self.assertIs(is_join_paper(neither, told), True)

    def test_papers_changed_in_one_place(self):
        self.assertIs(is_join_paper(GLUE, ("good", RIGHT, LEFT)), False)
        for at in range(len(LEFT)):
            self.assertIs(is_join_paper(GLUE, ("good", LEFT[:at] + LEFT[at + 1:], RIGHT)), False)
            self.assertIs(is_join_paper(GLUE, ("good", LEFT, RIGHT[:at] + RIGHT[at + 1:])), False)
        for value in (("good", LEFT), ("good", LEFT, RIGHT, ()), ["good", LEFT, RIGHT], ("good", list(LEFT), RIGHT),
                      ("bad", LEFT, RIGHT), ("good", (), ()), ("bad", (), ()), ("good", RIGHT[::-1], LEFT),
                      ("Good", LEFT, RIGHT)):
            self.assertIs(self.judged(is_join_paper, GLUE, value), False)
        # A covered row of a whole tree may stand in a paper, too.
        more = (("", 0, 0, "t", 0), *LEFT)
        self.assertEqual(more, tuple(sorted(more)))
        self.assertIs(is_join_paper(GLUE, ("good", more, RIGHT)), True)

    def test_good_papers_of_bad_books(self):
        for book in (TWOTHREE, LESS, GLUE.without("mend two(. !+1:two(. .)) to three(. . .)")):
            for left, right in itertools.product((LEFT, ()), (RIGHT, ())):
                self.assertIs(is_join_paper(book, ("good", left, right)), False)

    def test_bad_papers_that_are_judged(self):
        rows = (("two", (None, None)), ("two", (None, None)), ("two", (1, 0)))
        for one, other in itertools.product(((), TWO, rows), repeat=2):
            self.assertIs(is_join_paper(TWOTHREE, ("bad", one, other)), True)
            self.assertIs(is_join_paper(GLUE, ("bad", one, other)), False)
        for other in (("put", 0), None, (("two", (0, 0)),), [], (("red", (None, None)),)):
            self.assertIs(self.judged(is_join_paper, TWOTHREE, ("bad", (), other)), False)

    def test_values_of_all_kinds(self):
        for value in odd_values():
            for told in (value, ("good", value, RIGHT), ("good", LEFT, value), ("bad", value, TWO), (value, LEFT,
                    RIGHT)):
                self.assertIs(self.judged(is_join_paper, GLUE, told), False)
            fine = value in ((), (("two", (None, None)),), (("three", (None, None, None)),)) if type(
                value) is tuple and repr(value).count("True") == 0 else False
            self.assertIs(self.judged(is_join_paper, TWOTHREE, ("bad", TWO, value)), fine)

    def test_wrong_arguments(self):
        late = Book.from_lines(*rings(3).lines, "put ^se")
        for call in (join_paper, unraised, lambda book: is_join_paper(book, None)):
            self.refuses_odd(InvalidBook, call, lambda value: isinstance(value, Book))
            self.refused(TooMany, call, late, limit=100)
        self.refused(InvalidBook, is_join_paper, None, None)

    def test_nothing_changes(self):
        lines = GLUE.lines
        self.assertEqual(join_paper(GLUE), join_paper(GLUE))
        self.assertEqual(join_paper(TOPLESS), join_paper(TOPLESS))
        self.assertEqual(GLUE.lines, lines)


class Tables(Case):

    def check_tables(self, book):
        for kind in ("left", "right"):
            table, closure = Table(book, kind), Closure(book, kind)
            self.assertEqual(table.rows, tuple(sorted(closure.rows)))
            self.assertEqual(table.starts, tuple(sorted(closure.starts)))
            for row in (*table.rows, *table.starts):
                self.assertEqual(table.leads(row), closure.leads(row))
                covered = closure.is_covered(row)
                self.assertEqual(row not in table.open_rows and row not in table.open_starts, covered)
                case = beside(book, row)
                self.assertEqual(case is None, covered)
                if case is not None:
                    self.assertIs(is_beside(book, row, case), True)

    def test_books_with_all_differences(self):
        found = set()
        for number in range(12):
            book = chance.joining_book(number)
            self.check_tables(book)
            found |= {start[3] for kind in ("left", "right") for start in Table(book, kind).starts}
        self.assertEqual(found, {-2, -1, 0, 1, 2})

    def test_several_sorts(self):
        for book in (ROOT, mirrored_book(ROOT), RED_JOINS, mirrored_book(RED_JOINS), *with_ranks(range(840, 860))):
            self.check_tables(book)

    def test_small_trees_fail_where_tables_are_open(self):
        for book in (TWOTHREE, ROOT, *[chance.joining_book(number) for number in range(8)]):
            places = {kind: {start[:4] for start in Table(book, kind).open_starts}
                      | {("mend", *row[:4]) if row[0] else ("top", row[3]) for row in Table(book, kind).open_rows}
                      for kind in ("left", "right")}
            shapes, _ = shapes_until(book.scheme, 6, 25)
            for one, other in itertools.product(shapes, shapes):
                kind = "left" if one.spot[1] >= other.spot[1] else "right"
                try:
                    join_shapes(book, one, other)
                except NoMend as error:
                    self.assertIn(error.where, places[kind])

    def test_last_and_first_sorts(self):
        # Only a node m has children of the sort u, in the middle: no join has its place there.
        book = Book.from_lines("bare t", "tops t", "form a t t1 t1", "form b u t1 t1", "form m t t1 u1 t1", "put ^a")
        for kind in ("left", "right"):
            self.assertEqual({start[1:3] for start in Table(book, kind).starts}, {("t", "t")})


class Unraised(Case):

    def test_known_books(self):
        self.assertEqual([unraised(book) for book in (TWOTHREE, GLUE, REDS, TOPLESS, LEVEL)],
                         [(), (), (), ("red",), ()])

    def test_useful_forms_alone(self):
        lines = ("bare a", "tops a", "form x a a1 a1", "form y a b1 b1", "form p b a0 a0", "form q b a1 a1",
                 "form r c a1 a1", "form s d c1 a1", "form t d e1 e1", "put ^x")
        book = Book.from_lines(*lines)
        # No right tree has the sorts c and d, and the sort e does not even exist.
        self.assertEqual(unraised(book), ("p", "q"))
        self.assertEqual(unraised(book.with_drawing("top p(. .) to x(. .)")), ("q",))
        both = book.with_drawing("top p(. .) to x(. .)").with_drawing("top q(. .) to x(. .)")
        self.assertEqual(unraised(both), ())
        # A drawing that is told more than one form raises no such tree.
        deep = book.with_drawing("top p(x(. .) .) to x(x(. .) .)")
        self.assertEqual(unraised(deep), ("p", "q"))

    def test_forms_that_exist_but_not_where_they_are_useful(self):
        # The sort b is useful at the rank 1 alone, beside an empty tree; a node q exists at the rank 2 alone.
        scheme = Scheme.from_lines("bare a", "tops a z", "form x z b1 a2", "form p b a1 a1", "form q b c1 c1",
                                   "form r c a1 a1")
        book = Book.from_lines(*scheme.lines, "put ^r")
        ranks = Ranks(scheme)
        self.assertEqual([ranks.forms_at(1), ranks.forms_at(2), ranks.useful_at(1), ranks.useful_at(2)],
                         [("p", "r"), ("q", "x"), ("b",), ("z",)])
        self.assertEqual(unraised(book), ("p",))

    def test_by_force(self):
        for book in (*with_ranks(range(860, 900)), ROOT):
            ranks = Ranks(book.scheme)
            found = set()
            for rank in range(ranks.turn + ranks.period + 12):
                for name in ranks.forms_at(rank):
                    sort = book.scheme[name].sort_name
                    hand = f"{name}({' '.join('.' for _ in book.scheme[name])})"
                    if sort in ranks.useful_at(rank) and sort not in book.scheme.tops and not book.at(("top", hand)):
                        found.add(name)
            self.assertEqual(unraised(book), tuple(sorted(found)))
    def test_books_without_any_split_all_trees(self):
        for book in (GLUE, mirrored_book(GLUE), RED_JOINS):
            self.assertEqual((unraised(book), join_paper(book)[0]), ((), "good"))
            for shape in shapes_until(book.scheme, 9, 60)[0]:
                for number in range(shape.size):
                    self.assertEqual([part.is_right for part in split_shape(book, shape, number)], [True, True])


class Bounds(Case):

    def test_more_than_20000_rows(self):
        wide = wide_book(36)
        self.assertEqual(join_paper(wide), ("bad", (), ()))
        self.refused(InvalidOperation, Table, wide, "joins")

    def test_naive_joins_agree_on_the_kind(self):
        for one, other in itertools.product(each_right(GLUE.scheme, 5), each_right(GLUE.scheme, 2)):
            left, right = naive.tree_of(one.rows), naive.tree_of(other.rows)
            self.assertEqual(naive_joins.joined(GLUE, left, right)[2], naive_joins.join_kind(GLUE, left, right))
