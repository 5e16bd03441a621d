"""Points 0.17 to 0.22, 11.1, 14.1 and 14.2, and the eleventh stage: tables."""

import itertools

from mendbooks.base.forms import Scheme
from mendbooks.books.books import Book, mirrored_book
from mendbooks.decide import tables
from mendbooks.decide.tables import DEEDS, Table, beside, is_beside
from mendbooks.errors import InvalidBook, InvalidOperation, TooMany
from mendbooks.mend.deeds import failing_place
from mendbooks.ranks.counts import each_right
from mendbooks.ranks.ranks import Ranks
from tests import chance
from tests.books import GLUE, REDS, TWOTHREE, balanced_book
from tests.cases import Case
from tests.closure import Closure
from tests.samples import TOO_LONG, odd_values
from tests.schemes import HIDDEN, rings

T = TWOTHREE.scheme
LESS = TWOTHREE.without("mend three(. . !+1:two(. .)) to ^two(two(. .) two(. .))")
LEVEL = Book.from_lines("bare t", "tops t", "form two t t0 t0", "put two", "cut two(x .) to .", "cut two(. x) to .")


def with_ranks(numbers, tries=80):
    """Books by chance whose schemes repeat soon enough."""
    for number in numbers:
        book = chance.book_of(number, tries=tries)
        try:
            Ranks(book.scheme)
        except TooMany:
            continue
        yield book


def wide_book(many):
    """A book whose put leads to some 540 rows for each of so many hands; to just 20000 rows in all for 35 hands."""
    steps = [told for width in (4, 3) for told in itertools.product((1, 2, 3), repeat=width) if 1 in told]
    chosen = {f"g{chr(97 + at)}": steps[(43 + 5 * at) % len(steps)] for at in range(19)}
    forms = [f"form {name} t {' '.join(f't{step}' for step in told)}" for name, told in chosen.items()]
    nodes = [(name, " ".join("." * len(told))) for name, told in chosen.items()]
    lines = [f"mend {top}({name}({holes}) !+0:s) to ^{new}(^{name}({holes}) .)"
             for top, new in (("f", "k"), ("e", "q")) for name, holes in nodes]
    return Book.from_lines("bare t", "tops t", "form f t t1 t1", "form k s t1 s1", "form p s t0 t0", "form e t t1 t2",
                           "form q s t1 s2", *forms, "put p", "mend f(f(. .) !+0:s) to k(f(. .) .)",
                           "mend e(f(. .) !+0:s) to q(f(. .) .)", *lines[:many])


class Closed(Case):

    def test_constants(self):
        self.assertEqual((tables.DEEDS, tables.MAX_TABLE), (("put", "cut", "left", "right"), 20000))

    def check_table(self, book, kind):
        table, closure = Table(book, kind), Closure(book, kind)
        self.assertEqual(table.rows, tuple(sorted(closure.rows)))
        self.assertEqual(table.starts, tuple(sorted(closure.starts)))
        self.assertEqual((table.book, table.kind, len(table)), (book, kind, len(closure.rows)))
        covered = {row: closure.is_covered(row) for row in (*table.rows, *table.starts)}
        self.assertEqual(table.open_rows, tuple(row for row in table.rows if not covered[row]))
        self.assertEqual(table.open_starts, tuple(row for row in table.starts if not covered[row]))
        self.assertIs(self.judged(lambda: table.is_good), all(covered.values()))
        self.assertEqual(str(table), f"table of {len(table.rows)} rows, {len(table.open_rows)} open")
        for row in covered:
            leads = table.leads(row)
            self.assertEqual(leads, closure.leads(row))
            self.assertEqual(list(leads), sorted(leads))
        return table, closure

    def check_ways(self, table, closure):
        """Each way leads from a start to its row, and none is shorter."""
        far = {start: 1 for start in closure.starts}
        waiting = sorted(far)
        while waiting:
            row = waiting.pop(0)
            for other in sorted({other for rows in closure.leads(row).values() for other in rows}):
                if other not in far:
                    far[other] = far[row] + 1
                    waiting.append(other)
        for row in table:
            way = table.way(row)
            self.assertEqual((way[0] in closure.starts, way[-1], len(way)), (True, row, far[row]))
            for one, other in zip(way, way[1:]):
                self.assertTrue(any(other in rows for rows in closure.leads(one).values()))

    def check_cases(self, book, table, closure):
        for row in (*table.rows, *table.starts):
            case = beside(book, row)
            self.assertEqual(case is None, row not in table.open_rows and row not in table.open_starts)
            if case is None:
                self.assertIs(self.judged(is_beside, book, row, {}), False)
            else:
                self.assertEqual(list(case), sorted(case))
                self.assertTrue(closure.is_case(row, case))
                self.assertIs(self.judged(is_beside, book, row, case), True)

    def check_book(self, book):
        for kind in DEEDS:
            table, closure = self.check_table(book, kind)
            self.check_ways(table, closure)
            self.check_cases(book, table, closure)

    def test_known_books(self):
        for book in (TWOTHREE, GLUE, LESS, REDS, balanced_book(), mirrored_book(REDS), LEVEL):
            self.check_book(book)

    def test_books_with_drawings_left_out(self):
        for book in (GLUE, REDS):
            for drawing in book.drawings[1:]:
                self.check_book(book.without(drawing.line))

    def test_books_by_chance(self):
        for book in with_ranks(range(100, 190)):
            self.check_book(book)

    def test_deep_drawings(self):
        # What stands two levels below decides, on both sides of a join and beside an odd child.
        book = Book.from_lines(
            *T.lines, "put ^two", "mend two(two(. two(. .)) !+1:two(. .)) to three(two(. two(. .)) . .)",
            "mend two(two(. three(. . .)) !+1:two(. .)) to three(two(. three(. . .)) . .)",
            "mend two(three(. . .) !+1:two(. .)) to three(three(. . .) . .)",
            "mend two(!+1:two(. .) .) to three(. . .)",
            "join two(. two(. .)) two(. .) +0 to two(two(. two(. .)) two(. .))",
            "join three(. . .) t +0 to two(three(. . .) .)",
            "join two(. .) three(two(. .) . .) +0 to two(two(. .) three(two(. .) . .))")
        self.check_book(book)
        row = ("two", 1, 1, "two(. .)", 2)
        self.assertEqual(beside(book, row), {(0,): "two", (0, 1): None})
        self.assertIsNone(beside(book, ("two", 1, 1, "two(. .)", 9)))
        # At the rank 1 nothing stands beside a gap, and so no drawing leads on from there.
        self.assertEqual(Table(book, "put").open_rows, tuple((form, index, 1, "two(. .)", 1) for form, index in (
            ("three", 0), ("three", 1), ("three", 2), ("two", 1))))


class Good(Case):

    def test_good_and_bad(self):
        for book, good in ((TWOTHREE, (True, True, False, False)), (GLUE, (True, True, True, True)),
                           (LESS, (False, True, False, False)), (REDS, (True, False, False, False)),
                           (balanced_book(), (True, False, False, False)), (LEVEL, (True, True, False, True))):
            self.assertEqual(tuple(Table(book, kind).is_good for kind in DEEDS), good)
            mirrored = mirrored_book(book)
            self.assertEqual(tuple(Table(mirrored, kind).is_good for kind in ("put", "cut")), good[:2])

    def test_mirrored_books_are_as_good(self):
        for book in (LESS, REDS, balanced_book(), *with_ranks(range(600, 640))):
            for kind in ("put", "cut"):
                one, other = Table(book, kind), Table(mirrored_book(book), kind)
                self.assertEqual((other.is_good, len(other), len(other.open_rows), len(other.open_starts)),
                                 (one.is_good, len(one), len(one.open_rows), len(one.open_starts)))

    def test_beside_deeds_in_small_trees(self):
        for book in (TWOTHREE, GLUE, LESS, REDS, balanced_book(), *with_ranks(range(40), 100)):
            for kind in ("put", "cut"):
                table = Table(book, kind)
                places = {place_of(row) for row in (*table.open_rows, *table.open_starts)}
                for shape in [shape for keys in range(6) for shape in each_right(book.scheme, keys)][:60]:
                    for gap in range(shape.size + 1) if kind == "put" or shape.size else ():
                        failing = failing_place(book, shape, (kind, gap))
                        self.assertTrue(failing is None or failing in places)

    def test_examples(self):
        table = Table(TWOTHREE, "put")
        self.assertEqual((str(table), str(Table(TWOTHREE, "cut"))),
                         ("table of 61 rows, 0 open", "table of 56 rows, 0 open"))
        self.assertEqual(table.rows[0], ("", 0, 0, "two(. .)", 0))
        self.assertEqual(str(Table(LESS, "put")), "table of 61 rows, 12 open")
        self.assertEqual((len(Table(GLUE, "left")), len(Table(GLUE, "right"))), (25, 25))

    def test_whole_tree_as_a_row(self):
        table = Table(REDS, "put")
        self.assertEqual([row for row in table if row[0] == ""], [("", 0, 0, "red(. .)", 0)])
        self.assertEqual(table.leads(("", 0, 0, "red(. .)", 0)), {"top red(. .) to bb(. .)": ()})
        less = Table(REDS.without("top red(. .) to bb(. .)"), "put")
        self.assertEqual(less.open_rows, (("", 0, 0, "red(. .)", 0),))
        self.assertEqual(less.leads(("", 0, 0, "red(. .)", 0)), {})
        self.assertEqual(Table(TWOTHREE, "put").leads(("", 0, 0, "two(. .)", 0)), {})

    def test_put_that_is_not_odd(self):
        table = Table(LEVEL, "put")
        self.assertEqual((table.rows, table.starts), ((("", 0, 0, "t", 0),), (("put",),)))
        self.assertEqual(table.leads(("put",)), {"put two": (("", 0, 0, "t", 0),)})
        self.assertEqual(table.way(("", 0, 0, "t", 0)), (("put",), ("", 0, 0, "t", 0)))
        self.assertEqual(Table(LEVEL, "cut").starts, (("cut", "two", 0, 0), ("cut", "two", 1, 0)))
        self.assertEqual(Table(LEVEL, "cut").rows, ())

    def test_starts(self):
        self.assertEqual(Table(TWOTHREE, "put").starts, (("put",),))
        self.assertEqual(Table(TWOTHREE, "cut").starts, (
            ("cut", "three", 0, 1), ("cut", "three", 1, 1), ("cut", "three", 2, 1), ("cut", "two", 0, 1),
            ("cut", "two", 1, 1)))
        self.assertEqual(Table(GLUE, "left").starts, tuple(("join", "t", "t", 0, rank) for rank in range(13)))
        self.assertEqual(Table(GLUE, "right").starts, Table(GLUE, "left").starts)
        far = Book.from_lines("bare t", "tops t", "form one t t1 t2", "form two t t3 t2", "form up t t1 t1", "put up")
        self.assertEqual({start[3] for start in Table(far, "left").starts}, {0, 1})
        self.assertEqual({start[3] for start in Table(far, "right").starts}, {0, -1, -2})

    def test_forms_that_are_not_useful(self):
        scheme = Scheme.from_lines("bare a", "tops a", "form x a a1 a1", "form y c a1 a2")
        book = Book.from_lines(*scheme.lines, "put ^x", "cut x(x .) to .", "cut x(. x) to .")
        self.assertEqual([row for row in Table(book, "put").rows if row[0] == "y"], [])
        self.assertEqual([start for start in Table(book, "cut").starts if start[1] == "y"], [])
        row = ("y", 0, 1, "x(. .)", 3)
        self.assertEqual(beside(book, row), {})
        self.assertIs(is_beside(book, row, {(1,): "x"}), True)
        self.assertIs(is_beside(book, row, {(1,): "y"}), False)

    def test_ranks_are_taken_to_their_bases(self):
        table = Table(TWOTHREE, "put")
        self.assertEqual({row[4] for row in table.rows}, set(range(13)))
        row = ("three", 0, 1, "two(. .)", 12)
        self.assertEqual(table.leads(row)["mend three(!+1:two(. .) . .) to ^two(two(. .) two(. .))"],
                         tuple(sorted([("", 0, 0, "two(. .)", 0)] + [(form, index, 1, "two(. .)", 12) for form,
                                                                     index in (
                             ("three", 0), ("three", 1), ("three", 2), ("two", 0), ("two", 1))])))

    def test_20000_rows_and_more(self):
        table = Table(wide_book(35), "put")
        self.assertEqual((len(table), len(table.rows)), (20000, 20000))
        self.refused(TooMany, Table, wide_book(36), "put", limit=20000)
        self.assertEqual(len(Table(wide_book(36), "cut")), 0)

    def test_schemes_that_repeat_too_late(self):
        book = Book.from_lines(*rings(3).lines, "put ^se")
        for kind in DEEDS:
            self.refused(TooMany, Table, book, kind, limit=100)
        self.refused(InvalidOperation, Table, book, "puts")
        self.refused(TooMany, beside, book, None, limit=100)
        self.refused(TooMany, is_beside, book, None, None, limit=100)
        fine = Book.from_lines(*rings(1).lines, "put ^se")
        self.assertEqual(len(Table(fine, "put")), 1)
        self.assertEqual(Table(fine, "put").open_rows, (("", 0, 0, "se(. .)", 0),))


def place_of(row):
    if len(row) == 4:
        return row[:3]
    return ("top", row[3]) if row[0] == "" else ("mend", *row[:4])


class Asked(Case):

    def test_in(self):
        table = Table(TWOTHREE, "put")
        for row in table.rows:
            self.assertIn(row, table)
            self.assertNotIn(list(row), table)
            self.assertNotIn((*row, 0), table)
        for row in (("put",), ("two", 0, True, "two(. .)", 1), ("two", False, 1, "two(. .)", 1),
                    ("two", 0, 1, "two(. .)", True),
                    ("two", 0, 1, "two(. .)", 13), ("two", 0, 1, ["two(. .)"], 1), ("two", 0, 1, "t", 1)):
            self.assertNotIn(row, table)
        self.assertIn(("two", 0, 1, "two(. .)", 1), table)
        for value in odd_values():
            self.assertIs(value in table, False)

    def test_leads_and_ways_of_other_values(self):
        for kind in DEEDS:
            table = Table(GLUE, kind)
            for value in [*odd_values(), ("cut", "two", True, 1), ("cut", "two", 0, True),
                          ("two", 0, True, "two(. .)", 2),
                          ("join", "t", "t", False, 0), ["put"], ("put", 0), ("three", 2, 1, "two(. .)", 13)]:
                told = repr(value)
                if not (value == ("put",) and kind == "put" or value == ("cut", "two", 0, 1) and kind == "cut"
                        or told in [repr(row) for row in (*table.rows, *table.starts)]):
                    self.refused(InvalidOperation, table.leads, value)
                if told not in [repr(row) for row in table.rows]:
                    self.refused(InvalidOperation, table.way, value)
            for start in table.starts:
                self.refused(InvalidOperation, table.way, start)

    def test_leads_are_not_shared(self):
        table = Table(TWOTHREE, "put")
        row = ("two", 1, 1, "two(. .)", 7)
        table.leads(row).clear()
        self.assertEqual(table.leads(row), {"mend two(. !+1:two(. .)) to three(. . .)": ()})

    def test_iterated(self):
        table = Table(REDS, "put")
        self.assertEqual((tuple(table), len(table)), (table.rows, len(table.rows)))

    def test_equal(self):
        for kind, other in itertools.product(DEEDS, DEEDS):
            self.assertIs(Table(GLUE, kind) == Table(Book.from_lines(*GLUE.lines), other), kind == other)
        table = Table(TWOTHREE, "put")
        for value in [*odd_values(), Table(LESS, "put"), table.rows]:
            self.assertIs(table == value, False)
            self.assertIs(table != value, True)

    def test_wrong_arguments(self):
        self.refuses_odd(InvalidBook, lambda value: Table(value, "put"), lambda value: isinstance(value, Book))
        self.refuses_odd(InvalidOperation, lambda value: Table(TWOTHREE, value),
                         lambda value: isinstance(value, str) and value in DEEDS)
        self.refused(InvalidBook, Table, None, None)
        self.refused(InvalidOperation, Table, TWOTHREE, "join")


class Cases(Case):

    def rows_that_can_be(self, book):
        """All values with the form of rows and starts, for some hands."""
        ranks, scheme = Ranks(book.scheme), book.scheme
        bases = range(ranks.turn + 12 + ranks.period)
        hands = sorted({drawing.hand for drawing in book} | set(scheme.sorts))
        yield ("put",)
        for form in scheme.forms:
            for index, (sort, step) in enumerate(form.children):
                if sort == scheme.bare and form.called in ranks.forms_at(step):
                    yield ("cut", form.called, index, step)
                for rank, hand, difference in itertools.product(bases, hands, (-12, -1, 0, 1, 12)):
                    top = hand if "(" not in hand else scheme[hand.split("(")[0]].sort_name
                    if form.called in ranks.forms_at(rank) and (difference or top != sort):
                        yield (form.called, index, difference, hand, rank)
        for hand in hands:
            yield ("", 0, 0, hand, 0)
        for sort, other, difference, rank in itertools.product(scheme.sorts, scheme.sorts, range(-2, 3), bases):
            left, right = (rank, rank + difference) if difference >= 0 else (rank - difference, rank)
            if sort in ranks.sorts_at(left) and other in ranks.sorts_at(right):
                yield ("join", sort, other, difference, rank)

    def test_all_rows_that_can_be(self):
        for book in (GLUE, REDS, *with_ranks(range(300, 312), 100)):
            closure = Closure(book, "put")
            for row in self.rows_that_can_be(book):
                case = beside(book, row)
                self.assertEqual(case is None, closure.is_covered(row), row)
                if case is not None:
                    self.assertTrue(closure.is_case(row, case) or row[0] == "", row)
                    self.assertIs(self.judged(is_beside, book, row, case), True)

    def test_judge_takes_each_case_and_nothing_else(self):
        for book in (LESS, GLUE, REDS.without("mend bb(!+0:red(. .) .) to rb(red(. .) .)"),
                     *with_ranks(range(500, 506), 100)):
            closure = Closure(book, "put")
            names = [None, *book.scheme.names]
            paths = [(), (0,), (1,), (2,), (0, 0), (1, 1), (0, 0, 0)]
            for row in list(self.rows_that_can_be(book))[::211]:
                for many in range(3):
                    for chosen in itertools.combinations(paths, many):
                        for told in itertools.product(names, repeat=many):
                            case = dict(zip(chosen, told))
                            right = case == {} and closure.is_case(row, case) if row[0] == "" else closure.is_case(row,
                                                                                                                   case)
                            self.assertIs(is_beside(book, row, case), right, (row, case))

    def test_example(self):
        row = ("three", 2, 1, "two(. .)", 4)
        self.assertIs(is_beside(LESS, row, {(0,): "two"}), True)
        self.assertIs(is_beside(LESS, row, {}), True)
        self.assertIsNone(beside(LESS, ("three", 0, 1, "two(. .)", 4)))

    def test_paths_of_cases(self):
        row = ("three", 2, 1, "two(. .)", 4)
        for case, right in (({(0,): "two", (0, 1): "three", (0, 1, 0): "two"}, True), ({(2,): "two"}, False),
                            ({(): "three"}, False), ({(0, 1): "two"}, False), ({(3,): "two"}, False),
                            ({(-1,): "two"}, False),
                            ({(2, 0): "two"}, False), ({(0,): None}, False), ({(0,): "four"}, False),
                            ({(0,): ""}, False),
                            ({(0,): "two", (0, 2): "two"}, False), ({(0,): "three", (0, 2): "two"}, True)):
            self.assertIs(is_beside(LESS, row, case), right, case)
        low = ("three", 2, 1, "two(. .)", 1)
        for case, right in (({(0,): None}, True), ({(0,): "two"}, False), ({(0,): None, (1,): None}, True),
                            ({(0,): None, (0, 0): None}, False)):
            self.assertIs(is_beside(LESS, low, case), right, case)

    def test_each_drawing_of_the_place_is_refuted(self):
        row = ("two", 0, -1, "t", 4)
        less = TWOTHREE.without("mend two(!-1:t two(. .)) to three(. . .)")
        self.assertEqual(beside(less, row), {(1,): "two"})
        for case, right in (({(1,): "two"}, True), ({(1,): "three"}, False), ({}, False),
                            ({(1,): "two", (1, 0): "two"}, True)):
            self.assertIs(is_beside(less, row, case), right)
            self.assertIs(is_beside(TWOTHREE, row, case), False)
        self.assertEqual(beside(less, ("two", 0, -1, "t", 2)), {(1,): "two"})

    def test_odd_values_as_cases(self):
        row = ("three", 2, 1, "two(. .)", 4)
        for value in [*odd_values(), {(True,): "two"}, {(0,): ["two"]}, {"0": "two"}, {0: "two"}, [((0,), "two")],
                      {(0,): False}, {(0,): 0}, {((0,),): "two"}, {(1,): "two", None: None}]:
            self.assertIs(self.judged(is_beside, LESS, row, value), value == {} and isinstance(value, dict)
                          or repr(value) == "{(1,): 'two'}", value)
            self.assertIs(self.judged(is_beside, LESS, ("put",), value), False)
            self.assertIs(self.judged(is_beside, TWOTHREE, ("", 0, 0, "two(. .)", 0), value), False)
            self.assertIs(self.judged(is_beside, REDS, ("", 0, 0, "lred(. .)", 0), value), isinstance(value, dict)
                          and value == {})

    def test_values_that_are_no_rows(self):
        wrong = [(), ("put", 0), ["put"], ("cut",), ("cut", "two", 0), ("cut", "two", 0, 0), ("cut", "two", 0, 2),
                 ("cut", "two", 2, 1), ("cut", "two", 0, True), ("cut", "two", False, 1), ("cut", "four", 0, 1),
                 ("put", "two", 0, 1), ("two", 0, 1, "t"), ("two", 2, 1, "t", 3), ("two", -1, 1, "t", 3),
                 ("two", 0, 1, "t", 13), ("two", 0, 1, "t", 0), ("two", 0, 1, "t", -1), ("two", 0, 13, "t", 3),
                 ("two", 0, -13, "t", 3), ("two", 0, 0, "t", 3), ("two", 0, 0, "two(. .)", 3), ("two", 0, True, "t", 3),
                 ("two", 0, 1, "t", True), ("two", False, 1, "t", 3), ("two", 0, 1, "s", 3), ("two", 0, 1, ".", 3),
                 ("two", 0, 1, "two(. . .)", 3), ("two", 0, 1, "^two(. .)", 3), ("two", 0, 1, "four(. .)", 3),
                 ("two", 0, 1, None, 3), ("two", 0, 1, ("t",), 3), ("two", 0, "1", "t", 3), ("two", 0, 1, 7, 3),
                 ("four", 0, 1, "t", 3), ("", 0, 0, ".", 0), ("", 0, 0, "s", 0), ("", 1, 0, "t", 0), ("", 0, 1, "t", 0),
                 ("", 0, 0, "t", 1), ("", False, 0, "t", 0), ("", 0, 0, "t", False), ("join", "t", "t", 3, 0),
                 ("join", "t", "t", -3, 0), ("join", "s", "t", 0, 0), ("join", "t", "s", 0, 0),
                 ("join", "t", "t", 0, 13),
                 ("join", "t", "t", True, 0), ("join", "t", "t", 0, -1), ("join", "t", "t", 0),
                 ("glue", "t", "t", 0, 0),
                 ("two", 0, 1, "t", TOO_LONG), ("two", 0, TOO_LONG, "t", 3), ("join", "t", "t", "0", 0)]
        for value in [*odd_values(), *wrong]:
            fine = ("('put',)", "('cut', 'two', 0, 1)", "('two', 0, -1, 't', 2)", "('', 0, 0, 't', 0)",
                    "('join', 't', 't', 0, 0)")
            if repr(value) in fine:
                self.assertIs(self.judged(is_beside, GLUE, value, None), False)
            else:
                self.refused(InvalidOperation, beside, GLUE, value)
                self.refused(InvalidOperation, is_beside, GLUE, value, {})

    def test_rows_at_ranks_where_forms_do_not_exist(self):
        book = Book.from_lines(*HIDDEN.lines, "put ^x")
        self.refused(InvalidOperation, beside, book, ("y", 0, 1, "a", 1))
        self.refused(InvalidOperation, beside, book, ("join", "a", "d", 0, 0))
        self.refused(InvalidOperation, beside, book, ("join", "c", "a", 0, 1))
        self.assertEqual(beside(book, ("y", 0, 1, "a", 2)), {})
        self.assertEqual(beside(book, ("join", "c", "d", -1, 1)), {})
        self.refused(InvalidOperation, beside, book, ("join", "c", "d", -2, 0))

    def test_books_that_are_none(self):
        self.refuses_odd(InvalidBook, lambda value: beside(value, ("put",)), lambda value: isinstance(value, Book))
        self.refuses_odd(InvalidBook, lambda value: is_beside(value, ("put",), {}),
                         lambda value: isinstance(value, Book))
        self.refused(InvalidBook, beside, None, None)
        self.assertIsNone(beside(TWOTHREE, ("put",)))

    def test_cases_are_not_shared(self):
        row = ("two", 0, -1, "t", 4)
        less = TWOTHREE.without("mend two(!-1:t two(. .)) to three(. . .)")
        beside(less, row).clear()
        self.assertEqual(beside(less, row), {(1,): "two"})
