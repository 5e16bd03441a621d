"""The conventions 0.1 to 0.6 and the main statements 0.20 to 0.22, over all parts together."""

import itertools

from mendbooks.books.books import Book, mirrored_book, renamed_book
from mendbooks.decide.joins import is_join_paper, join_paper, unraised
from mendbooks.decide.least import is_good, is_paper, least_bad, paper, realize
from mendbooks.decide.tables import DEEDS, Table
from mendbooks.decide.uses import lacking, least_use, long_deed, most_drawings, spared, used
from mendbooks.mend.deeds import cut, failing_place, put, steps
from mendbooks.mend.joins import join_shapes, join_steps, raise_shape, split_shape
from mendbooks.ranks.counts import each_right
from mendbooks.ranks.heights import greatest_height
from mendbooks.text.shell import Shell
from mendbooks.text.texts import read_book, read_paper, read_rows, write_book, write_paper, write_rows
from mendbooks.trees.shapes import Shape
from mendbooks.use.bench import Bench
from mendbooks.use.index import Index
from tests.books import GLUE, REDS, TWOTHREE, balanced_book
from tests.cases import Case
from tests.samples import HEIGHTS, caught, odd_values
from tests.test_least import FAR, TOPLESS, keys_of, shapes_until
from tests.test_tables import LESS, LEVEL, with_ranks
from tests.test_uses import ONCE, TWICE, lines_used

T = TWOTHREE.scheme
FULL = Shape(T, (("two", (None, None)), ("two", (0, 0))))
INDEX = Index(GLUE, (5, 1, 3))
TEXT = write_book(TWOTHREE)


def decided(value):
    return [
        (paper, value, "put"), (paper, LESS, value), (is_paper, value, "put", ()), (is_paper, LESS, value, ()),
        (is_paper, LESS, "put", value), (is_good, value, "put"), (is_good, LESS, value), (least_bad, value, "put"),
        (least_bad, LESS, value), (realize, value, "put", ()), (realize, LESS, value, ()), (realize, LESS, "put",
        value),
        (join_shapes, value, FULL, FULL), (join_shapes, GLUE, value, FULL), (join_shapes, GLUE, FULL, value),
        (join_steps, GLUE, value, FULL), (join_steps, GLUE, FULL, value), (raise_shape, value, FULL),
        (raise_shape, GLUE, value), (split_shape, value, FULL, 0), (split_shape, GLUE, value, 0),
        (split_shape, GLUE, FULL, value), (join_paper, value), (is_join_paper, value, ()), (is_join_paper, GLUE, value),
        (unraised, value), (most_drawings, value, "put"), (most_drawings, GLUE, value), (long_deed, value, "put", 3),
        (long_deed, GLUE, value, 3), (long_deed, GLUE, "put", value), (used, value, "put"), (used, GLUE, value),
        (least_use, value, "put", "put ^two"), (least_use, GLUE, value, "put ^two"), (least_use, GLUE, "put", value),
        (spared, value), (lacking, value, "put"), (lacking, GLUE, value),
    ]


def indexed(value):
    return [
        (Index, value), (Index, GLUE, value), (Index.from_shape, value, FULL, (1, 2, 3)),
        (Index.from_shape, GLUE, value, (1, 2, 3)), (Index.from_shape, GLUE, FULL, value), (INDEX.__contains__, value),
        (INDEX.__getitem__, value), (INDEX.less, value), (INDEX.under, value), (INDEX.over, value),
        (lambda: list(INDEX.between(value, None)),), (lambda: list(INDEX.between(None, value)),), (INDEX.with_key,
        value),
        (INDEX.without_key, value), (INDEX.united, value), (INDEX.lessened, value), (INDEX.shared, value),
        (lambda: INDEX.elder(many=value),), (INDEX.__eq__, value),
    ]


def worked(bench, shell, value):
    return [
        (Bench, value), (bench.draw, value), (bench.erase, value), (bench.demand, value), (bench.waive, value),
        (lambda: bench.undo(many=value),), (lambda: bench.redo(many=value),), (bench.__contains__, value),
        (bench.__eq__, value), (write_book, value), (read_book, value), (write_rows, value), (read_rows, value),
        (write_paper, value), (read_paper, value), (Shell, value), (shell, value), (shell.run, value),
    ]


class Conventions(Case):

    def test_no_call_changes_anything(self):
        bench, shell = Bench(TWOTHREE), Shell(TEXT)
        bench.demand(("good", "put"))
        bench.erase("cut three(. x .) to two(. .)")
        before = (LESS.lines, GLUE.lines, FULL.rows, INDEX.content, INDEX.shape, INDEX.elder(many=2).content,
                  Table(GLUE, "left").rows, bench.book, bench.pledges)
        for value in odd_values():
            if repr(value) in ("('good', 'put')", "'put two'", "('done', (), ('put', 0))"):
                continue
            kept = repr(value)
            for call, *arguments in [*decided(value), *indexed(value), *worked(bench, shell, value)]:
                # The numbers 1 and 2 undo what was done.
                if not (isinstance(value, int) and value in (1, 2)):
                    caught(call, *arguments)
            self.assertEqual(repr(value), kept)
            after = (LESS.lines, GLUE.lines, FULL.rows, INDEX.content, INDEX.shape, INDEX.elder(many=2).content,
                     Table(GLUE, "left").rows, bench.book, bench.pledges)
            self.assertEqual(after, before)
        self.assertEqual((shell.bench(), len(shell)), (Bench(TWOTHREE), 0))

    def test_what_is_asked_tells_true_or_false(self):
        for value in odd_values():
            for call in (is_paper, lambda *told: is_join_paper(GLUE, told[2])):
                for kind in DEEDS:
                    self.judged(call, GLUE, kind, value)
            for thing in (INDEX, Bench(GLUE), Table(GLUE, "put"), GLUE):
                self.assertIs(type(value in thing), bool)
                self.assertIs(type(thing == value), bool)
                self.assertEqual(thing != value, not thing == value)

    def test_sequences_that_are_returned_are_tuples(self):
        bench = Bench(GLUE)
        bench.demand(("good", "put"))
        found = [paper(LESS, "put"), paper(GLUE, "put"), paper(LESS, "put")[1], least_bad(LESS, "put"),
                join_paper(GLUE),
                 least_bad(LESS, "left"), least_bad(LESS, "put")[1], realize(LESS, "put", (("put",),)),
                 join_steps(GLUE, FULL, FULL), join_steps(GLUE, FULL, FULL)[0], join_steps(GLUE, FULL, FULL)[0][0],
                 split_shape(GLUE, FULL, 1), unraised(TOPLESS), long_deed(GLUE, "put", 2), used(GLUE, "put"),
                 least_use(GLUE, "put", "put ^two"), lacking(LESS, "put"), lacking(LESS, "put")[0], INDEX.content,
                 bench.pledges, bench.undo(), bench.redo(), read_rows("-"), read_rows("two . ."), read_paper("good"),
                         read_paper("good\ntop t")[1]]
        for value in found:
            self.assertIs(type(value), tuple)

    def test_iterating(self):
        shell = Shell(TEXT)
        for thing in (shell, FULL, T, GLUE.drawings[0], Bench(GLUE).trial()):
            self.assertRaises(TypeError, iter, thing)
            self.assertRaises(TypeError, list, thing)
        for thing in (INDEX, Bench(GLUE), Table(GLUE, "put"), GLUE):
            self.assertEqual(len(list(thing)), len(thing))

    def test_equal_calls_return_equal_results(self):
        for book in (LESS, TOPLESS, FAR):
            for kind in DEEDS:
                self.assertEqual(paper(book, kind), paper(Book.from_lines(*book.lines), kind))
        self.assertEqual(Index(GLUE, (3, 1)), Index(GLUE, (3, 1)))
        self.assertEqual(long_deed(GLUE, "cut", 9), long_deed(GLUE, "cut", 9))


class Statements(Case):

    def test_exactly_one_of_two(self):
        for book in (TWOTHREE, GLUE, LESS, REDS, TOPLESS, FAR, LEVEL, ONCE, TWICE, *with_ranks(range(1400, 1430))):
            for kind in DEEDS:
                good, pair = Table(book, kind), least_bad(book, kind)
                self.assertEqual(good.is_good, pair is None)
                self.assertEqual(is_paper(book, kind, ("good", good.rows)), pair is None)
                if pair is not None:
                    other = pair[1].rows if isinstance(pair[1], Shape) else pair[1]
                    self.assertIs(is_paper(book, kind, ("bad", pair[0].rows, other)), True)

    def test_good_books_leave_right_trees(self):
        for book in (TWOTHREE, LEVEL, ONCE, TWICE):
            for shape in shapes_until(book.scheme, 6, 60)[0]:
                for gap in range(shape.size + 1):
                    more = put(book, shape, gap)
                    self.assertEqual((more.is_right, more.size), (True, shape.size + 1))
                    if shape.size > 0:
                        fewer = cut(book, shape, gap)
                        self.assertEqual((fewer.is_right, fewer.size), (True, shape.size - 1))

    def test_what_is_not_true(self):
        # All trees that come of puts alone are mended, but not all right trees: no put ever makes a node `far`.
        lines = ("bare t", "tops t", "form two t t0 t0", "form far t t1 t1", "put two")
        book = Book.from_lines(*lines, "cut two(x .) to .", "cut two(. x) to .")
        self.assertEqual([is_good(book, kind) for kind in ("put", "cut")], [True, False])
        shape = Shape(book.scheme, ())
        for gap in (0, 1, 0, 2, 4):
            shape = put(book, shape, gap)
            self.assertEqual({name for name, _ in shape.rows}, {"two"})
            for other in range(shape.size + 1):
                self.assertIsNone(failing_place(book, shape, ("cut", other)))
        # Good for puts and for cuts, but not for joins.
        self.assertEqual([is_good(TWOTHREE, kind) for kind in DEEDS], [True, True, False, False])
        # A mend for each odd place, but each of them asks for more than stands there.
        mends = [drawing.line for drawing in TWOTHREE.drawings if drawing.kind == "mend"]
        for line in mends:
            less = TWOTHREE.without(line)
            place = TWOTHREE[line].place
            if less.at(place):
                self.assertIn(False, [is_good(less, kind) for kind in ("put", "cut")])
                self.assertEqual({drawing.place for drawing in less}, {drawing.place for drawing in TWOTHREE})
        # A least tree in which a deed fails can be much higher than the drawings.
        book = Book.from_lines(*TWOTHREE.lines, "form p v t3 t3", "form q w v3 v3", "form far t w1 t1")
        pair = least_bad(book, "put")
        self.assertGreater(pair[0].height, 1 + max(drawing.picture.levels for drawing in book))

    def test_books_without_a_drawing_that_no_deed_uses(self):
        for book in (TWOTHREE, LESS, REDS, TOPLESS, FAR, TWICE, *with_ranks(range(1430, 1445))):
            lines = {*used(book, "put"), *used(book, "cut")}
            for drawing in book:
                if drawing.kind not in ("put", "join") and drawing.line not in lines:
                    less = book.without(drawing.line)
                    for kind in ("put", "cut"):
                        self.assertEqual((is_good(less, kind), lacking(less, kind)), (is_good(book, kind),
                                lacking(book, kind)))

    def test_good_books_cannot_spare_what_deeds_use(self):
        for book in (TWOTHREE, LEVEL, ONCE, TWICE, REDS, balanced_book()):
            for kind in ("put", "cut"):
                if is_good(book, kind):
                    for line in used(book, kind):
                        if not line.startswith("put"):
                            self.assertIs(is_good(book.without(line), kind), False)

    def test_fewer_forms(self):
        for scheme in (HEIGHTS, REDS.scheme, T):
            for name in scheme.names:
                fewer = scheme.without(name)
                for keys in range(12):
                    self.assertLessEqual(greatest_height(fewer, keys), greatest_height(scheme, keys))

    def test_mirrored_books(self):
        for book in (TWOTHREE, LESS, REDS, TOPLESS, FAR, LEVEL, *with_ranks(range(1445, 1470))):
            other = mirrored_book(book)
            for kind in ("put", "cut"):
                one, two = least_bad(book, kind), least_bad(other, kind)
                self.assertEqual(one is None, two is None)
                self.assertEqual(len(used(book, kind)), len(used(other, kind)))
                if one is not None:
                    self.assertEqual(keys_of(one), keys_of(two))
                    shape, (_, gap) = one
                    self.assertIsNotNone(failing_place(other, shape.mirrored(), (kind, shape.size - gap)))

    def test_other_names(self):
        for book in (TWOTHREE, GLUE, LESS, REDS, TOPLESS):
            sorts = {sort: f"{sort}x" for sort in book.scheme.sorts}
            forms = {name: f"x{name}" for name in book.scheme.names}
            other = renamed_book(book, sorts, forms)
            for kind in DEEDS:
                self.assertEqual((is_good(book, kind), len(Table(book, kind))), (is_good(other, kind),
                        len(Table(other, kind))))
            self.assertEqual(len(spared(book)), len(spared(other)))
            for kind in ("put", "cut"):
                self.assertEqual(len(lacking(book, kind)), len(lacking(other, kind)))

    def test_subtrees_can_be_exchanged(self):
        # A subtree beside the way, which no drawing opens, does not matter.
        for book in (TWOTHREE, REDS):
            for shape in itertools.islice(each_right(book.scheme, 8), 12):
                tops = [path for path in ((0, 0), (0, 1), (1, 0), (1, 1)) if self.has(shape, path)]
                for path, other in itertools.permutations(tops, 2):
                    twin = shape.below(other)
                    if shape.below(path).spot == twin.spot:
                        self.assertIs(shape.replaced(path, twin).is_right, True)

    def has(self, shape, path):
        return caught(shape.below, path) is None

    def test_papers_of_all_tables_tell_all_drawings(self):
        for book in (TWOTHREE, REDS):
            for kind in ("put", "cut"):
                rows = Table(book, kind).rows
                for row in rows[::5]:
                    way = Table(book, kind).way(row)
                    shape, deed = realize(book, kind, way)
                    told = lines_used(book, shape, deed)
                    self.assertTrue(set(told) <= set(used(book, kind)))
                    if failing_place(book, shape, deed) is None:
                        self.assertEqual(len(steps(book, shape, deed)), len(told))

    def test_splits_of_books_that_are_good_for_joins(self):
        for book in (GLUE, mirrored_book(GLUE)):
            self.assertEqual(unraised(book), ())
            for shape in shapes_until(book.scheme, 9, 60)[0]:
                for number in range(shape.size):
                    left, right = split_shape(book, shape, number)
                    self.assertEqual(join_shapes(book, left, right).size, shape.size)
