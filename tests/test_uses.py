"""Points 15.1 and 15.2, and the fifteenth stage: uses of drawings."""

from mendbooks.books.books import Book, mirrored_book, renamed_book
from mendbooks.decide.least import is_good
from mendbooks.decide.tables import Table
from mendbooks.decide.uses import lacking, least_use, long_deed, most_drawings, spared, used
from mendbooks.errors import InvalidBook, InvalidNumber, InvalidOperation, TooMany, UnknownName
from mendbooks.mend.deeds import _tried, failing_place, is_deed, steps
from mendbooks.trees.shapes import Shape
from tests.books import GLUE, REDS, TWOTHREE, balanced_book
from tests.cases import Case
from tests.samples import odd_values
from tests.schemes import rings
from tests.test_least import FAR, TOPLESS, shapes_until
from tests.test_tables import LESS, LEVEL, wide_book, with_ranks

T = TWOTHREE.scheme
KINDS = ("put", "cut")
# Chains, in which a new node is told to the node above it, or to that one and the next one.
CHAIN = ("bare t", "tops t", "form two t t0 t0", "form new s t0 t0", "put ^new", "top new(. .) to two(. .)",
         "cut two(x .) to .", "cut two(. x) to .")
ONCE = Book.from_lines(*CHAIN, "mend two(!+0:new(. .) .) to two(two(. .) .)",
                       "mend two(. !+0:new(. .)) to two(. two(. .))")
TWICE = Book.from_lines(*CHAIN, "form mid m t0 t0", "mend two(!+0:new(. .) .) to ^mid(two(. .) .)",
                        "mend two(. !+0:new(. .)) to ^mid(. two(. .))", "top mid(. .) to two(. .)",
                        "mend two(!+0:mid(. .) .) to two(two(. .) .)", "mend two(. !+0:mid(. .)) to two(. two(. .))")
# No tree but the empty one is right, as each node has a sort of its own kind.
BARE = Book.from_lines("bare a", "tops a", "form x b a1 a1", "put ^x", "cut x(x .) to .")
# Nodes of three sorts that follow each other: puts climb three steps, and no more.
STEPS = Book.from_lines("bare a", "tops a d", "form x b a1 a1", "form y c b1 b1", "form z d c1 c1",
                        "form w e d1 d1", "put x")

# A root stands nowhere else; what is done there is not over until a drawing is done at the top.
ROOTED = Book.from_lines(*[line for line in ONCE.lines if not line.startswith("tops")], "tops r t", "form root r t0 t0",
                         "form half h t0 t0", "mend root(!+0:new(. .) .) to ^half(two(. .) .)",
                         "mend root(. !+0:new(. .)) to ^half(. two(. .))", "top half(. .) to root(. .)",
                         "cut root(x .) to .", "cut root(. x) to .")


def lines_used(book, shape, deed):
    """The lines of the drawings that a deed uses, whether it is done or fails."""
    return [drawing.line for _, drawing in _tried(book, shape, deed)[0].done]


def all_deeds(book, kind, most, many=70):
    """All pairs of small right shapes and deeds of a kind, and up to which number of keys none is missed."""
    shapes, most = shapes_until(book.scheme, most, many)
    return [(shape, (kind, gap)) for shape in shapes for gap in range(shape.size + 1)
            if kind == "put" or shape.size > 0], most


class Used(Case):

    def check_book(self, book, most=5):
        for kind in KINDS:
            told = used(book, kind)
            table = Table(book, kind)
            self.assertEqual(told, tuple(sorted({line for row in (*table.starts, *table.rows)
                                                 for line in table.leads(row)})))
            deeds, whole = all_deeds(book, kind, most)
            least = {}
            for shape, deed in deeds:
                for line in lines_used(book, shape, deed):
                    least.setdefault(line, shape.size)
            for drawing in book:
                self.check_use(book, kind, drawing.line, least.get(drawing.line), whole)
        return self.check_spared(book)

    def check_use(self, book, kind, line, least, whole):
        pair = least_use(book, kind, line)
        self.assertEqual(pair is not None, line in used(book, kind))
        if pair is None:
            self.assertIsNone(least)
            return
        shape, deed = pair
        self.assertEqual((shape.is_right, is_deed(shape, deed), deed[0]), (True, True, kind))
        self.assertIn(line, lines_used(book, shape, deed))
        if shape.size <= whole:
            self.assertEqual(shape.size, least)
        else:
            self.assertIsNone(least)

    def check_spared(self, book):
        """A book without the drawings that are not used is as good; returns how many these are."""
        told = spared(book)
        lines = {*used(book, "put"), *used(book, "cut")}
        self.assertEqual(told.lines, (*book.scheme.lines, *(
            drawing.line for drawing in book if drawing.line in lines or drawing.kind == "join")))
        for kind in KINDS:
            self.assertEqual((used(told, kind), lacking(told, kind), Table(told, kind).rows),
                             (used(book, kind), lacking(book, kind), Table(book, kind).rows))
        self.assertEqual(spared(told), told)
        return len(book) - len(told)

    def test_known_books(self):
        for book in (TWOTHREE, GLUE, LESS, REDS, TOPLESS, FAR, LEVEL, BARE, STEPS, ONCE, TWICE, ROOTED,
                     mirrored_book(REDS)):
            self.check_book(book, 6)

    def test_many_drawings(self):
        book = balanced_book()
        told = used(book, "put")
        self.assertGreater(len(told), 20)
        for line in told:
            self.check_use(book, "put", line, least_use(book, "put", line)[0].size, 99)

    def test_books_by_chance(self):
        self.assertGreater(sum(self.check_book(book) for book in with_ranks(range(900, 930))), 30)

    def test_examples(self):
        self.assertEqual([most_drawings(TWOTHREE, "put"), len(used(TWOTHREE, "put")), len(used(TWOTHREE, "cut")),
                          lacking(LESS, "put")], [None, 6, 15, (("mend", "three", 2, 1, "two(. .)"),)])
        shape, deed = least_use(TWOTHREE, "cut", "cut three(. x .) to two(. .)")
        self.assertEqual([shape.rows, deed, spared(GLUE) == GLUE,
                          len(steps(TWOTHREE, *long_deed(TWOTHREE, "put", 5))) > 4],
                         [(("three", (None, None, None)),), ("cut", 1), True, True])

    def test_the_put_is_always_used(self):
        for book in (TWOTHREE, LEVEL, BARE, FAR, TOPLESS):
            line = book.put_drawing.line
            self.assertIn(line, used(book, "put"))
            self.assertNotIn(line, used(book, "cut"))
            shape, deed = least_use(book, "put", line)
            self.assertEqual((shape.rows, deed), ((), ("put", 0)))
            self.assertIsNone(least_use(book, "cut", line))
            self.assertEqual(spared(book).put_drawing.line, line)

    def test_drawings_of_joins(self):
        line = "join t t +0 to ^two(. .)"
        for kind in KINDS:
            self.assertNotIn(line, used(GLUE, kind))
            self.assertIsNone(least_use(GLUE, kind, line))
        self.assertIn(line, spared(GLUE))

    def test_used_by_a_deed_that_fails_later(self):
        book = Book.from_lines(*T.lines, "put ^two", "cut two(x .) to .")
        self.assertEqual(used(book, "cut"), ("cut two(x .) to .",))
        self.assertEqual(least_use(book, "cut", "cut two(x .) to .")[0].size, 1)
        less = GLUE.without("mend two(. !+1:two(. .)) to three(. . .)")
        splits = "mend three(. . !+1:two(. .)) to ^two(two(. .) two(. .))"
        self.assertIn(splits, used(less, "put"))
        top = TOPLESS.without("mend rr(red(. .) !+0:rred(. red(. .))) to ^red(bb(. .) br(. red(. .)))")
        self.assertIn("mend red(. !+0:red(. .)) to ^rred(. ^red(. .))", used(top, "put"))
        for line in used(top, "put"):
            pair = least_use(top, "put", line)
            self.assertIn(line, lines_used(top, *pair))

    def test_drawings_at_the_top(self):
        line = "top red(. .) to bb(. .)"
        self.assertEqual(least_use(REDS, "put", line)[0].rows, ())
        more = REDS.with_drawing("top lred(red(. .) .) to rb(red(. .) .)")
        self.assertIsNone(least_use(more, "put", "top lred(red(. .) .) to rb(red(. .) .)"))
        self.assertEqual(spared(more), REDS)


class Long(Case):

    def longest_by_force(self, book, kind, most):
        deeds, _ = all_deeds(book, kind, most, 200)
        return max([len(steps(book, *pair)) for pair in deeds], default=0)

    def test_rings(self):
        for book in (TWOTHREE, GLUE, balanced_book(), REDS):
            for kind in KINDS:
                if is_good(book, kind):
                    self.assertIsNone(most_drawings(book, kind))
                    self.assertGreater(self.longest_by_force(book, kind, 7), 2)

    def test_no_ring(self):
        for book, puts in ((LEVEL, 1), (ONCE, 2), (TWICE, 3), (ROOTED, 3)):
            self.assertEqual([most_drawings(book, kind) for kind in KINDS], [puts, 1])
            self.assertEqual([self.longest_by_force(book, kind, 5) for kind in KINDS], [puts, 1])
            for kind in KINDS:
                self.check_most(book, kind, most_drawings(book, kind))
        # A put beneath a node of the sort b goes on to this node, and ends there.
        book = Book.from_lines("bare a", "tops a b", "form x b a1 a1", "form y b a1 a1 a1", "form z b a1 a1 a1 a1",
                               "put ^x", "mend x(!+1:x(. .) .) to y(. . .)", "mend x(. !+1:x(. .)) to y(. . .)",
                               "mend y(!+1:x(. .) . .) to z(. . . .)", "mend y(. !+1:x(. .) .) to z(. . . .)",
                               "mend y(. . !+1:x(. .)) to z(. . . .)", "cut z(x . . .) to y(. . .)")
        self.assertIs(is_good(book, "put"), False)
        self.assertEqual({place[1] for place in lacking(book, "put")}, {"z"})

    def test_no_deeds(self):
        self.assertEqual(most_drawings(BARE, "cut"), 0)
        self.refused(InvalidOperation, long_deed, BARE, "cut", 0)
        self.assertEqual(used(BARE, "cut"), ())
        self.refused(InvalidOperation, most_drawings, BARE, "put")
        self.assertEqual(lacking(BARE, "put"), (("top", "x(. .)"),))

    def test_books_by_chance(self):
        found = set()
        for book in with_ranks(range(930, 1000), 60):
            for kind in KINDS:
                if is_good(book, kind):
                    most = most_drawings(book, kind)
                    self.check_most(book, kind, most)
                    found.add(most)
        self.assertGreater(len(found), 1)

    def check_most(self, book, kind, most):
        forced = self.longest_by_force(book, kind, 5)
        if most is None:
            for many in (0, 1, 7, 40):
                self.check_long(book, kind, many)
            return
        self.assertLessEqual(forced, most)
        for many in range(most + 1 if most else 0):
            self.check_long(book, kind, many)
        self.refused(InvalidOperation, long_deed, book, kind, most + 1)

    def check_long(self, book, kind, many):
        shape, deed = long_deed(book, kind, many)
        self.assertEqual((shape.is_right, deed[0], is_deed(shape, deed)), (True, kind, True))
        self.assertIsNone(failing_place(book, shape, deed))
        self.assertGreaterEqual(len(steps(book, shape, deed)), many)

    def test_steps_and_tops(self):
        # Each put ends with a drawing at the top, or beside it.
        lines = ("bare b", "tops b", "form bb b b1 b1", "form br b b1 r1", "form rb b r1 b1", "form rr b r1 r1",
                 "form red r b0 b0", "put ^red", "top red(. .) to bb(. .)")
        book = Book.from_lines(*lines)
        self.refused(InvalidOperation, most_drawings, book, "put")
        for kind in KINDS:
            self.assertGreater(len(lacking(book, kind)), 0)

    def test_0_100_and_101(self):
        for book, kind in ((TWOTHREE, "put"), (TWOTHREE, "cut"), (REDS, "put"), (balanced_book(), "put")):
            for many in (0, 1, 2, 99, 100):
                self.check_long(book, kind, many)
            for many in (-1, 101, 10 ** 60, True, None):
                self.refused(InvalidNumber, long_deed, book, kind, many, value=many)
        self.check_long(LEVEL, "cut", 1)
        self.refused(InvalidOperation, long_deed, LEVEL, "cut", 2)


class Lacking(Case):

    def check_book(self, book, most=5):
        for kind in KINDS:
            table = Table(book, kind)
            told = lacking(book, kind)
            places = {start[:3] for start in table.open_starts} | {
                ("mend", *row[:4]) if row[0] else ("top", row[3]) for row in table.open_rows}
            self.assertEqual(told, tuple(sorted(places)))
            self.assertEqual(told == (), is_good(book, kind))
            for pair in all_deeds(book, kind, most, 40)[0]:
                place = failing_place(book, *pair)
                self.assertTrue(place is None or place in told)

    def test_books(self):
        for book in (TWOTHREE, GLUE, LESS, REDS, TOPLESS, FAR, LEVEL, BARE, STEPS, *with_ranks(range(1100, 1120)),
                     *[REDS.without(drawing.line) for drawing in REDS.drawings[1:]]):
            self.check_book(book)

    def test_told(self):
        self.assertEqual(lacking(TOPLESS, "put"), (("top", "red(. .)"),))
        self.assertEqual(lacking(GLUE, "put"), ())
        bare = Book.from_lines(*T.lines, "put ^two", "cut two(x .) to .")
        self.assertEqual(lacking(bare, "cut"), (
            ("cut", "three", 0), ("cut", "three", 1), ("cut", "three", 2), ("cut", "two", 1),
            ("mend", "three", 0, -1, "t"), ("mend", "three", 1, -1, "t"), ("mend", "three", 2, -1, "t"),
            ("mend", "two", 0, -1, "t"), ("mend", "two", 1, -1, "t")))


class Wrong(Case):

    CALLS = (most_drawings, used, lacking, lambda book, kind: long_deed(book, kind, None),
             lambda book, kind: least_use(book, kind, None))

    def test_books_and_kinds(self):
        for call in self.CALLS:
            for value in odd_values():
                if not isinstance(value, Book):
                    self.refused(InvalidBook, call, value, "put")
                    self.refused(InvalidBook, call, value, None)
                if not (isinstance(value, str) and value in KINDS):
                    self.refused(InvalidOperation, call, TWOTHREE, value)
            self.refused(InvalidOperation, call, TWOTHREE, "left")
        self.refuses_odd(InvalidBook, spared, lambda value: isinstance(value, Book))

    def test_numbers_and_lines(self):
        for value in odd_values():
            if not (isinstance(value, int) and not isinstance(value, bool) and 0 <= value <= 100):
                self.refused(InvalidNumber, long_deed, TWOTHREE, "put", value, value=value)
                self.refused(InvalidNumber, long_deed, LESS, "put", value, value=value)
            if not (isinstance(value, str) and value in TWOTHREE):
                self.refused(UnknownName, least_use, TWOTHREE, "put", value, name=value)
        self.refused(UnknownName, least_use, TWOTHREE, "put", TWOTHREE.put_drawing, name=TWOTHREE.put_drawing)

    def test_order_of_errors(self):
        late = Book.from_lines(*rings(3).lines, "put ^se")
        wide = wide_book(36)
        for book, limit in ((late, 100), (wide, 20000)):
            for call in (most_drawings, used, lacking):
                self.refused(TooMany, call, book, "put", limit=limit)
                self.refused(InvalidOperation, call, book, "left")
            self.refused(TooMany, spared, book, limit=limit)
            self.refused(TooMany, long_deed, book, "put", 1, limit=limit)
            self.refused(InvalidNumber, long_deed, book, "put", 101, value=101)
            self.refused(UnknownName, least_use, book, "put", "put q", name="put q")
            self.refused(TooMany, least_use, book, "put", book.put_drawing.line, limit=limit)
            self.refused(InvalidOperation, long_deed, book, "puts", 101)
        for call in (most_drawings, lambda book, kind: long_deed(book, kind, 0)):
            self.refused(InvalidOperation, call, LESS, "put")
            self.refused(InvalidOperation, call, REDS, "cut")

    def test_equal_calls(self):
        names = {name: name[::-1] for name in T.names}
        for book in (TWOTHREE, renamed_book(TWOTHREE, {"t": "u"}, names)):
            self.assertEqual(long_deed(book, "put", 9), long_deed(book, "put", 9))
            self.assertEqual(used(book, "put"), used(book, "put"))
            self.assertEqual(len(used(book, "cut")), 15)
            self.assertIsNone(most_drawings(book, "cut"))
        self.assertEqual(Shape(T, ()), least_use(TWOTHREE, "put", "put ^two")[0])
