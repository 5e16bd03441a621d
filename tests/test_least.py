"""Points 12.1 and 0.20, and the twelfth stage: papers, trees in which deeds fail, and ways that are made real."""

import itertools

from mendbooks.books.books import Book, mirrored_book, renamed_book
from mendbooks.decide.chase import Chase, Failing, Using
from mendbooks.decide.growth import Growth
from mendbooks.decide.least import is_good, is_paper, least_bad, paper, realize
from mendbooks.decide.tables import DEEDS, Table
from mendbooks.errors import InvalidBook, InvalidOperation, TooMany
from mendbooks.mend.deeds import failing_place, is_deed
from mendbooks.mend.joins import join_shapes
from mendbooks.ranks.counts import each_right
from mendbooks.ranks.ranks import Ranks
from mendbooks.trees.shapes import Shape
from tests import naive, naive_joins
from tests.books import GLUE, RED_JOINS, REDS, TWOTHREE, balanced_book
from tests.cases import Case
from tests.following import parts_of
from tests.samples import TOO_LONG, nested, odd_values, same
from tests.schemes import rings
from tests.test_tables import LESS, LEVEL, wide_book, with_ranks

T = TWOTHREE.scheme
PUTS = Table(TWOTHREE, "put").rows
# A red node without a drawing at the top; puts that climb by steps of 2; and sorts with ranks that come again.
TOPLESS = REDS.without("top red(. .) to bb(. .)")
FAR = Book.from_lines("bare t", "tops t", "form two t t2 t2", "form three t t2 t2 t2", "put ^two",
                      "mend two(!+2:two(. .) .) to three(. . .)", "mend two(. !+2:two(. .)) to three(. . .)")
KNOWN = (TWOTHREE, GLUE, LESS, REDS, TOPLESS, FAR, LEVEL, balanced_book(), mirrored_book(GLUE), mirrored_book(REDS))


def shapes_until(scheme, most, many=70):
    """All right shapes up to a number of keys, which is told too; of so many shapes at the most."""
    found = []
    for keys in range(most + 1):
        more = list(itertools.islice(each_right(scheme, keys), many - len(found) + 1))
        if len(found) + len(more) > many:
            return found, keys - 1
        found += more
    return found, most


def least_by_force(book, kind, most):
    """The least number of keys with which a deed fails, None if none fails; and up to which number none is missed."""
    if kind in ("put", "cut"):
        shapes, most = shapes_until(book.scheme, most)
        found = [shape.size for shape in shapes for gap in range(shape.size + 1)
                 if (kind == "put" or shape.size) and failing_place(book, shape, (kind, gap)) is not None]
        return min(found, default=None), most
    shapes, most = shapes_until(book.scheme, most, 25)
    found = []
    trees = [(naive.tree_of(shape.rows), shape.size) for shape in shapes]
    for (left, one), (right, other) in itertools.product(trees, trees):
        if one + other <= most and naive_joins.join_kind(book, left, right) == kind:
            try:
                naive_joins.joined(book, left, right)
            except naive.Fails:
                found.append(one + other)
    return min(found, default=None), most


def keys_of(pair):
    return pair[0].size + (pair[1].size if isinstance(pair[1], Shape) else 0)


class Force(Case):

    def check_pair(self, book, kind, pair):
        """A pair fails, and is of the kind."""
        shape, other = pair
        self.assertIs(shape.is_right, True)
        if kind in ("put", "cut"):
            self.assertEqual((other[0], is_deed(shape, other)), (kind, True))
            self.assertIsNotNone(failing_place(book, shape, other))
        else:
            left, right = naive.tree_of(shape.rows), naive.tree_of(other.rows)
            self.assertEqual(naive_joins.join_kind(book, left, right), kind)
            self.assertRaises(naive.Fails, naive_joins.joined, book, left, right)

    def check_book(self, book, most=5):
        counted = {}
        for kind in DEEDS:
            pair, table = least_bad(book, kind), Table(book, kind)
            least, whole = least_by_force(book, kind, most)
            self.assertIs(self.judged(is_good, book, kind), pair is None)
            self.assertIs(table.is_good, pair is None)
            if pair is None:
                self.assertIsNone(least)
                self.assertEqual(paper(book, kind), ("good", table.rows))
            else:
                self.check_pair(book, kind, pair)
                if keys_of(pair) <= whole:
                    self.assertEqual(keys_of(pair), least)
                    counted[kind] = 1
                else:
                    self.assertTrue(least is None or least >= keys_of(pair))
                told = paper(book, kind)
                self.assertEqual((told[0], len(told)), ("bad", 3))
                self.assertEqual(Shape(book.scheme, told[1]).size + (
                    0 if kind in ("put", "cut") else Shape(book.scheme, told[2]).size), keys_of(pair))
            self.assertIs(self.judged(is_paper, book, kind, paper(book, kind)), True)
        return len(counted)

    def test_known_books(self):
        for book in KNOWN:
            self.check_book(book)

    def test_books_with_drawings_left_out(self):
        for book in (GLUE, REDS):
            for drawing in book.drawings[1:]:
                self.check_book(book.without(drawing.line), 6)

    def test_deep_failures(self):
        # All trees of TWOTHREE with up to nine keys are few; each drawing is missed first where it has to be.
        found = []
        for drawing in TWOTHREE.drawings[1:]:
            less = TWOTHREE.without(drawing.line)
            for kind in ("put", "cut"):
                pair = least_bad(less, kind)
                least, whole = least_by_force(less, kind, 9)
                self.assertEqual(least, None if pair is None else keys_of(pair))
                self.assertEqual(whole, 9)
                found.append(least)
        self.assertGreater(max(least for least in found if least is not None), 3)

    def test_books_by_chance(self):
        counted = sum([self.check_book(book, 4) for book in with_ranks(range(700, 740))])
        self.assertGreater(counted, 60)

    def test_mirrored_and_renamed_books(self):
        for book in (LESS, TOPLESS, FAR, *with_ranks(range(740, 760))):
            sorts = {sort: f"s{sort}"[:8] for sort in book.scheme.sorts}
            forms = {name: f"f{name}"[:8] for name in book.scheme.names}
            for kind in ("put", "cut"):
                pair = least_bad(book, kind)
                for other in (mirrored_book(book), renamed_book(book, sorts, forms)):
                    twin = least_bad(other, kind)
                    self.assertEqual(pair is None, twin is None)
                    if pair is not None:
                        self.assertEqual(keys_of(pair), keys_of(twin))


class Counted(Case):

    def test_ways_have_the_keys_that_are_counted(self):
        counted = 0
        for book in (LESS, TOPLESS, FAR, GLUE, RED_JOINS, *[REDS.without(drawing.line) for drawing in REDS.drawings[1:]],
                     *with_ranks(range(790, 800))):
            growth = Growth(book.scheme)
            for kind in DEEDS:
                table = Table(book, kind)
                for point in [Using(line) for row in table.starts for line in table.leads(row)] + (
                        [] if table.is_good else [Failing()]):
                    chase = Chase(table.course, point)
                    pieces = chase.cheapest()
                    self.assertEqual(keys_of(chase.grown(pieces)), sum(growth.keys_of(*piece) for piece in pieces))
                    counted += any(case for _, case in pieces)
        self.assertGreater(counted, 20)


class Told(Case):

    def test_examples(self):
        self.assertEqual(
            [paper(TWOTHREE, "cut")[0], least_bad(TWOTHREE, "put"), least_bad(LESS, "put")[0].rows,
             paper(LESS, "put")[2]], ["good", None, (("three", (None, None, None)),), ("put", 2)])
        self.assertEqual([is_paper(TWOTHREE, "put", ("good", PUTS)), is_paper(TWOTHREE, "put", ("good", ())),
                          is_good(LESS, "cut")], [True, False, True])

    def test_failing_at_the_top(self):
        pair = least_bad(TOPLESS, "put")
        self.assertEqual((pair[0].rows, pair[1]), ((), ("put", 0)))
        self.assertEqual(failing_place(TOPLESS, *pair), ("top", "red(. .)"))

    def test_failing_at_a_start(self):
        less = TWOTHREE.without("cut three(. x .) to two(. .)")
        self.assertEqual(paper(less, "cut"), ("bad", (("three", (None, None, None)),), ("cut", 1)))
        self.assertEqual(paper(TWOTHREE, "left"), ("bad", (), ()))
        # Trees of equal ranks are joined in the left one.
        self.assertEqual(paper(TWOTHREE, "right"), ("bad", (), (("two", (None, None)),)))

    def test_joins_that_fail_later(self):
        less = GLUE.without("mend two(. !+1:two(. .)) to three(. . .)")
        for kind in ("left", "right"):
            pair = least_bad(less, kind)
            self.assertEqual(pair is None, kind == "right")
        self.assertEqual(paper(less, "left"), ("bad", (("two", (None, None)),), ()))

    def test_joins_that_fail_at_each_rank(self):
        # Trees of the rank 1 have a sort of their own; only two of them cannot be joined.
        book = Book.from_lines(
            "bare z", "tops t z", "form two t z1 z1", "form three t z1 z1 z1", "form four t z1 z1 z1 z1", "put ^two",
            "join z z +0 to ^two(. .)", "mend two(. !+1:two(. .)) to three(. . .)",
            "mend three(. . !+1:two(. .)) to four(. . . .)", "mend two(!+1:two(. .) .) to three(. . .)",
            "mend three(!+1:two(. .) . .) to four(. . . .)")
        two = (("two", (None, None)),)
        self.assertEqual(least_by_force(book, "left", 3), (2, 3))
        self.assertEqual(paper(book, "left"), ("bad", two, two))
        for rank in range(5):
            pair = least_bad(self.ranked(rank), "left")
            self.assertEqual((pair[0].spot, pair[1].spot), ((f"s{chr(97 + rank)}", rank),) * 2)
            self.assertEqual(keys_of(pair), 2 * (2 ** rank - 1))

    def ranked(self, bad):
        """A book in which each rank has a sort of its own, and trees of one rank cannot be joined."""
        sorts = [f"s{chr(97 + rank)}" for rank in range(7)]
        lines = [f"bare {sorts[0]}", f"tops {' '.join(sorts)}", "put ^fb"]
        for rank, (low, high) in enumerate(zip(sorts, sorts[1:])):
            two, three, four = [f"{letter}{high[1]}" for letter in "fgh"]
            lines += [f"form {name} {high} {' '.join([low + '1'] * many)}"
                      for many, name in ((2, two), (3, three), (4, four))]
            lines += [f"mend {two}(. !+1:{two}(. .)) to {three}(. . .)",
                      f"mend {two}(!+1:{two}(. .) .) to {three}(. . .)",
                      f"mend {three}(. . !+1:{two}(. .)) to {four}(. . . .)",
                      f"mend {three}(!+1:{two}(. .) . .) to {four}(. . . .)"]
            if rank != bad:
                lines.append(f"join {low} {low} +0 to ^{two}(. .)")
            if rank < 5:
                above = f"f{sorts[rank + 2][1]}"
                lines += [f"mend {four}(. . . !+1:{two}(. .)) to ^{above}({two}(. .) {three}(. . .))",
                          f"mend {four}(!+1:{two}(. .) . . .) to ^{above}({three}(. . .) {two}(. .))"]
        return Book.from_lines(*lines)

    def test_failing_high_up(self):
        # Below nodes p, of which right trees have one at the rank 3 or higher, nothing is mended.
        book = Book.from_lines(*TWOTHREE.lines, "form p v t3 t3", "form q w v3 v3", "form far t w1 t1")
        ranks = Ranks(book.scheme)
        pair = least_bad(book, "put")
        self.assertEqual(keys_of(pair), 1 + ranks.around("v", 3))
        self.assertEqual(keys_of(pair), 4 + ranks.least("t", 6))
        self.assertEqual(failing_place(book, *pair)[:2], ("mend", "p"))
        for kind in DEEDS:
            self.assertIs(is_paper(book, kind, paper(book, kind)), True)

class Judged(Case):

    def good(self, book, kind, rows):
        return self.judged(is_paper, book, kind, ("good", rows))

    def test_good_papers_changed_in_one_place(self):
        for book, kind in ((TWOTHREE, "put"), (TWOTHREE, "cut"), (REDS, "put"), (GLUE, "left"), (GLUE, "right")):
            rows = Table(book, kind).rows
            self.assertIs(self.good(book, kind, rows), True)
            self.assertIs(self.good(book, kind, rows[::-1]), False)
            self.assertIs(self.good(book, kind, (*rows, rows[-1])), False)
            self.assertIs(self.good(book, kind, list(rows)), False)
            for at in range(len(rows)):
                self.assertIs(self.good(book, kind, (*rows[:at], *rows[at + 1:])), False)
                self.assertIs(self.good(book, kind, (*rows[:at], list(rows[at]), *rows[at + 1:])), False)
                swapped = (*rows[:at], *rows[at:at + 2][::-1], *rows[at + 2:])
                self.assertIs(self.good(book, kind, swapped), swapped == rows)

    def test_one_row_too_many(self):
        # This row is covered, but what it leads on to is there; the next one is not covered.
        covered = ("two", 0, -1, "t", 5)
        self.assertNotIn(covered, PUTS)
        more = tuple(sorted((*PUTS, *Table(TWOTHREE, "cut").rows)))
        self.assertIs(self.good(TWOTHREE, "put", tuple(sorted(set(more)))), True)
        self.assertIs(self.good(TWOTHREE, "cut", tuple(sorted(set(more)))), True)
        self.assertIs(self.good(TWOTHREE, "put", tuple(sorted((*PUTS, covered)))), False)
        for row in (("two", 0, 2, "two(. .)", 5), ("two", 0, 1, "t", 5), ("", 0, 0, "two(two(. .) .)", 1),
                    ("two", 0, 1, "two(. .)", 13), ("two", 2, 1, "two(. .)", 5), ("two", -1, 1, "two(. .)", 5),
                    ("four", 0, 1, "two(. .)", 5), ("two", 0, 13, "two(. .)", 5), ("two", 0, 1, "two(. .)", 0),
                    ("two", 0, 1, "two(.  .)", 5), ("two", 0, 1, ".", 5), ("put",), ("cut", "two", 0, 1),
                    ("two", 0, 1, "two(. .)", True), ("two", 0, True, "two(. .)", 2), (), ("two", 0, 1, None, 3)):
            self.assertIs(self.good(TWOTHREE, "put", tuple(sorted((*PUTS, row), key=repr))), False)
            self.assertIs(self.good(TWOTHREE, "put", (*PUTS, row)), False)
            self.assertIs(self.good(TWOTHREE, "put", (row, *PUTS)), False)

    def test_whole_trees_too_many(self):
        # A whole tree with a top sort is covered, whatever its hand.
        for hand in ("t", "three(. . .)", "two(two(. .) two(. .))"):
            self.assertIs(self.good(TWOTHREE, "put", tuple(sorted((*PUTS, ("", 0, 0, hand, 0))))), True)
        for hand in ("two(three(. .) .)", "u", ".", "", 0, None):
            self.assertIs(self.good(TWOTHREE, "put", (("", 0, 0, hand, 0), *PUTS)), False)
        rows = Table(REDS, "put").rows
        self.assertIs(self.good(REDS, "put", tuple(sorted((*rows, ("", 0, 0, "lred(. .)", 0))))), False)

    def test_rows_that_are_not_useful(self):
        # No right tree has a node y, and nothing leads on from there.
        book = Book.from_lines("bare a", "tops a", "form x a a0 a0", "form y c a1 a1", "form w d c1 a1", "put x",
                               "mend y(!+0:c .) to ^w(. .)")
        whole, row = ("", 0, 0, "a", 0), ("y", 0, 0, "c", 1)
        self.assertEqual(paper(book, "put"), ("good", (whole,)))
        self.assertIs(self.good(book, "put", (whole, row)), True)
        self.assertIs(self.good(book, "put", (row,)), False)
        # Trees of the sort a have the rank 0 alone, so there is no node y at another rank.
        self.assertIs(self.good(book, "put", (whole, row[:4] + (2,))), False)
        less = book.without("mend y(!+0:c .) to ^w(. .)")
        self.assertIs(self.good(less, "put", (whole,)), True)
        self.assertIs(self.good(less, "put", (whole, row)), False)

    def test_rows_of_other_kinds(self):
        # Rows may stand in a paper that its kind never comes to, also those of first and of inner children.
        left, right, cuts = [Table(GLUE, kind).rows for kind in ("left", "right", "cut")]
        both = tuple(sorted({*left, *right}))
        self.assertEqual((self.good(GLUE, "left", right), self.good(GLUE, "right", left)), (False, False))
        for kind in ("left", "right"):
            for rows in (both, PUTS, tuple(sorted({*PUTS, *cuts}))):
                self.assertIs(self.good(GLUE, kind, rows), True)
            self.assertIs(self.good(GLUE, kind, cuts), False)
            inner = ("three", 1, 1, "two(. .)", 5)
            self.assertIs(self.good(GLUE, kind, tuple(sorted({*(left if kind == "left" else right), inner}))), True)
        for row in left:
            less = tuple(other for other in PUTS if other != row)
            self.assertIs(self.good(GLUE, "left", less), False)
            self.assertIs(self.good(GLUE, "right", less), row not in right)
        self.assertIs(self.good(GLUE, "put", both), False)

    def test_books_that_are_not_good(self):
        for book, kind in ((LESS, "put"), (TWOTHREE, "left"), (REDS, "cut"), (TOPLESS, "put"), (FAR, "put")):
            table = Table(book, kind)
            for rows in (table.rows, (), tuple(row for row in table if row not in table.open_rows), PUTS):
                self.assertIs(self.good(book, kind, rows), False)

    def test_bad_papers(self):
        pair = least_bad(LESS, "put")
        rows = pair[0].rows
        self.assertIs(self.judged(is_paper, LESS, "put", ("bad", rows, ("put", 2))), True)
        for value in (("bad", rows, ("put", 1)), ("bad", rows, ("put", 4)), ("bad", rows, ("cut", 2)),
                      ("bad", rows, ["put", 2]), ("bad", rows), ("bad", rows, ("put", 2), 0), ("good", rows, ("put",
                      2)),
                      ["bad", rows, ("put", 2)], ("bad", (), ("put", 0)), ("bad", rows, ("put", True)),
                      ("bad", rows, rows), ("bad", list(rows), ("put", 2)), ("bad", rows, ("put", -1)),
                      ("bad", (*rows, ("two", (None, None))), ("put", 2)), ("bad", rows, ("put", TOO_LONG)),
                      ("bad", (*rows, ("two", (0, None))), ("put", 2))):
            self.assertIs(self.judged(is_paper, LESS, "put", value), False)
        self.assertIs(self.judged(is_paper, LESS, "cut", ("bad", rows, ("put", 2))), False)
        self.assertIs(self.judged(is_paper, TWOTHREE, "put", ("bad", rows, ("put", 2))), False)

    def test_rows_that_are_not_plain(self):
        three = ("three", (None, None, None))
        for rows, deeds in (((three,), (2,)), ((three, three, ("two", (0, 1))), (2, 5)),
                            ((three, ("two", (None, None)), three, ("three", (2, 1, 0))), (2, 5, 6, 7)),
                            ((three, three, three, ("three", (2, 1, 0))), (2, 5, 6, 7, 8))):
            self.assertIs(Shape(T, rows).is_right, True)
            for gap in range(Shape(T, rows).size + 1):
                self.assertIs(self.judged(is_paper, LESS, "put", ("bad", rows, ("put", gap))), gap in deeds)

    def test_bad_papers_of_joins(self):
        two = (("two", (None, None)),)
        full = (("two", (None, None)), ("two", (None, None)), ("two", (1, 0)))
        for one, other, kind in (((), (), "left"), (two, (), "left"), (two, two, "left"), ((), two, "right"),
                                 (two, full, "right"), (full, two, "left"), (full, full, "left")):
            for told in ("put", "cut", "left", "right"):
                self.assertIs(self.judged(is_paper, TWOTHREE, told, ("bad", one, other)), told == kind)
                self.assertIs(self.judged(is_paper, GLUE, told, ("bad", one, other)), False)
        self.assertIs(is_paper(TWOTHREE, "left", ("bad", (), ("put", 0))), False)
        self.assertIs(is_paper(TWOTHREE, "left", ("bad", (), None)), False)
        self.assertIs(is_paper(TWOTHREE, "left", ("bad", (("two", (0, 0)),), ())), False)

    def test_trees_that_are_not_right(self):
        lean = (("two", (None, None)), ("two", (0, None)))
        red = (("red", (None, None)),)
        self.assertIs(is_paper(LESS, "put", ("bad", lean, ("put", 0))), False)
        self.assertIs(is_paper(TOPLESS, "put", ("bad", red, ("put", 0))), False)
        self.assertIs(is_paper(TOPLESS, "put", ("bad", (), ("put", 0))), True)
        self.assertIs(is_paper(REDS, "left", ("bad", red, ())), False)

    def test_values_of_all_kinds(self):
        values = [*odd_values(), *[("good", value) for value in odd_values()],
                  *[("bad", value, ("put", 0)) for value in odd_values()], *[("bad", (),
                  value) for value in odd_values()],
                  *[(value, ()) for value in odd_values()], nested(7, ("good",), lambda value: (value, value))]
        for book, kind in ((TWOTHREE, "put"), (LESS, "put"), (TWOTHREE, "left"), (TOPLESS, "put")):
            for value in values:
                told = self.judged(is_paper, book, kind, value)
                self.assertEqual(told, any(same(value, fine) for fine in self.fine(book, kind)), value)

    def fine(self, book, kind):
        """The papers among the values of all kinds."""
        if book == TOPLESS:
            return [("bad", (), ("put", 0))]
        return [("bad", (), ())] if kind == "left" else []


class Real(Case):

    def check_way(self, book, kind, way):
        pair = realize(book, kind, way)
        self.assertIs(pair[0].is_right, True)
        if kind in ("put", "cut"):
            self.assertIs(is_deed(*pair), True)
            self.assertEqual(pair[1][0], kind)
        else:
            self.assertIs(pair[1].is_right, True)
            is_left = pair[0].spot[1] >= pair[1].spot[1]
            self.assertEqual(kind, "left" if is_left else "right")
        parts, failing = parts_of(book, pair)
        self.assertEqual(parts[:len(way)], way)
        if failing is not None:
            # It fails behind the way, or at its end if no drawing can be done there.
            self.assertTrue(len(parts) > len(way) or not Table(book, kind).leads(way[-1]))

    def test_ways_to_all_rows(self):
        for book in (TWOTHREE, GLUE, LESS, REDS, RED_JOINS, TOPLESS, FAR, LEVEL, balanced_book()):
            for kind in DEEDS:
                table = Table(book, kind)
                for row in table.rows:
                    self.check_way(book, kind, table.way(row))
                for start in table.starts:
                    self.check_way(book, kind, (start,))

    def test_books_by_chance(self):
        for book in with_ranks(range(760, 790)):
            for kind in DEEDS:
                table = Table(book, kind)
                for row in table.rows[::3]:
                    self.check_way(book, kind, table.way(row))
                for start in table.starts:
                    self.check_way(book, kind, (start,))

    def long_ways(self, book, kind, many):
        """The least and the greatest of some ways of so many parts."""
        table = Table(book, kind)
        layers = [{start: None for start in table.starts}]
        while len(layers) < many:
            layers.append({row: before for before in layers[-1] for rows in table.leads(before).values()
                           for row in rows})
        for end in {min(layers[-1]), max(layers[-1])} if layers[-1] else ():
            way = [end]
            for layer in layers[:0:-1]:
                way.append(layer[way[-1]])
            yield tuple(way[::-1])

    def test_100_parts_and_101(self):
        checked = 0
        for book in (TWOTHREE, GLUE, REDS, mirrored_book(GLUE), balanced_book()):
            for kind in DEEDS:
                for way in self.long_ways(book, kind, 100):
                    self.check_way(book, kind, way)
                    checked += 1
                for way in self.long_ways(book, kind, 101):
                    self.refused(InvalidOperation, realize, book, kind, way)
        self.assertGreater(checked, 10)

    def test_values_that_are_no_ways(self):
        way = Table(TWOTHREE, "put").way(("two", 0, 1, "two(. .)", 2))
        self.assertEqual(len(way), 3)
        self.check_way(TWOTHREE, "put", way)
        for value in (way[1:], way[::-1], (*way, way[0]), (way[0], *way), (way[0], way[2]), list(way), (list(way[0]),),
                      (("put", 0),), (way[0], list(way[1])), (*way, ("nope", 0, 1, "two(. .)", 3), way[2]),
                      (way[0], (*way[1][:4], True)), (*way, None), (*way, ()), ((), *way), (("cut", "two", 0, 1),),
                      (way[0], ("", 0, 0, "two(. .)", 0), way[1]), ("put",), (way,)):
            self.refused(InvalidOperation, realize, TWOTHREE, "put", value)
        self.refused(InvalidOperation, realize, TWOTHREE, "cut", (("cut", "two", 0, True),))
        self.refused(InvalidOperation, realize, TWOTHREE, "cut", (("cut", "two", 2, 1),))
        self.refuses_odd(InvalidOperation, lambda value: realize(TWOTHREE, "put", value),
                         lambda value: value == (("put",),))

    def test_last_rows_without_drawings(self):
        table = Table(LESS, "put")
        for row in table.open_rows:
            pair = realize(LESS, "put", table.way(row))
            self.assertEqual(failing_place(LESS, *pair), ("mend", *row[:4]))
        bare = Book.from_lines(*T.lines, "put ^two")
        for start in Table(bare, "cut").starts:
            self.assertEqual(failing_place(bare, *realize(bare, "cut", (start,))), start[:3])
        for start in Table(bare, "left").starts:
            one, other = realize(bare, "left", (start,))
            self.assertEqual((one.spot, other.spot), (("t", start[4]), ("t", start[4])))


class Wrong(Case):

    CALLS = (paper, least_bad, is_good, lambda book, kind: is_paper(book, kind, None),
             lambda book, kind: realize(book, kind, None))

    def test_books_and_kinds(self):
        for call in self.CALLS:
            for value in odd_values():
                if not isinstance(value, Book):
                    self.refused(InvalidBook, call, value, "put")
                    self.refused(InvalidBook, call, value, None)
                if not (isinstance(value, str) and value in DEEDS):
                    self.refused(InvalidOperation, call, TWOTHREE, value)

    def test_limits(self):
        late = Book.from_lines(*rings(3).lines, "put ^se")
        for call in self.CALLS:
            for kind in DEEDS:
                self.refused(TooMany, call, late, kind, limit=100)
            self.refused(InvalidOperation, call, late, "join")
        wide = wide_book(36)
        for call in (paper, least_bad, is_good, self.CALLS[-1]):
            self.refused(TooMany, call, wide, "put", limit=20000)
        self.assertIs(is_paper(wide, "put", None), False)
        self.assertIs(is_paper(wide, "put", ("good", ())), False)
        self.assertIs(is_paper(wide, "put", ("bad", (), ("put", 0))), True)

    def test_nothing_is_shared(self):
        self.assertEqual(paper(LESS, "put"), paper(LESS, "put"))
        self.assertEqual(least_bad(LESS, "put"), least_bad(LESS, "put"))
        lines = LESS.lines
        self.assertEqual(realize(LESS, "put", (("put",),)), realize(LESS, "put", (("put",),)))
        self.assertEqual(LESS.lines, lines)
        self.assertEqual(join_shapes(GLUE, Shape(T, ()), Shape(T, ())), join_shapes(GLUE, Shape(T, ()), Shape(T, ())))
