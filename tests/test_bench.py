"""Points 17.1 and 17.2, and the seventeenth stage: a bench."""

import random

from mendbooks.books.books import Book
from mendbooks.decide.least import is_good
from mendbooks.decide.uses import most_drawings
from mendbooks.errors import (
    InvalidBook, InvalidDrawing, InvalidNumber, InvalidOperation, NothingToUndo, Refused, TooMany, UnknownName)
from mendbooks.mend.deeds import failing_place
from mendbooks.trees.shapes import Shape
from mendbooks.use import bench as module
from mendbooks.use.bench import Bench
from tests.books import GLUE, REDS, TWOTHREE
from tests.cases import Case
from tests.samples import TOO_LONG, odd_values
from tests.schemes import rings
from tests.test_deeds import tower
from tests.test_least import FAR, TOPLESS
from tests.test_tables import LESS, LEVEL, wide_book
from tests.test_uses import ONCE, TWICE

T = TWOTHREE.scheme
CUT = "cut three(. x .) to two(. .)"
SPLIT = "mend three(. . !+1:two(. .)) to ^two(two(. .) two(. .))"
GLUE_LINE = "join t t +0 to ^two(. .)"
TWO = (("two", (None, None)),)
# Puts and some cuts leave the same hand.
TOP = "top new(. .) to two(. .)"
BOTH = Book.from_lines(
    "bare t", "tops t", "form two t t0 t0", "form tri t t0 t0 t0", "form new s t0 t0", "put ^new", TOP,
    "cut two(x .) to .", "cut two(. x) to .", "cut tri(x . .) to ^new(. .)", "cut tri(. x .) to ^new(. .)",
    "cut tri(. . x) to ^new(. .)", "mend two(!+0:new(. .) .) to two(two(. .) .)",
    "mend two(. !+0:new(. .)) to two(. two(. .))", "mend tri(!+0:new(. .) . .) to tri(two(. .) . .)",
    "mend tri(. !+0:new(. .) .) to tri(. two(. .) .)", "mend tri(. . !+0:new(. .)) to tri(. . two(. .))")


def news_of(before, after):
    """The news between two books."""
    return tuple([(kind, is_good(after, kind)) for kind in ("put", "cut")
                  if is_good(before, kind) != is_good(after, kind)])


def holds(book, pledge):
    """Whether a pledge holds, by its words."""
    if pledge[0] == "good":
        return is_good(book, pledge[1])
    if pledge[0] == "most":
        if not is_good(book, pledge[1]):
            return False
        most = most_drawings(book, pledge[1])
        return most is not None and most <= pledge[2]
    return failing_place(book, Shape(book.scheme, pledge[1]), pledge[2]) is None


class Checked(Case):

    def check(self, bench, book, pledges):
        """Compares all that a bench tells with a fresh book that has the same lines."""
        self.assertEqual((bench.book, bench.pledges), (Book.from_lines(*book.lines), tuple(pledges)))
        lines = [drawing.line for drawing in book]
        self.assertEqual((list(bench), len(bench)), (lines, len(lines)))
        self.assertEqual(str(bench), f"bench with {len(lines)} drawings, {len(pledges)} pledges")
        for line in lines:
            self.assertIn(line, bench)
        for pledge in pledges:
            self.assertIn(pledge, bench)
            self.assertIs(holds(book, pledge), True)
        fresh = Bench(book)
        self.assertIs(bench == fresh, not pledges)
        for pledge in pledges:
            fresh.demand(pledge)
        self.assertIs(bench == fresh, True)
        self.assertIs(bench != fresh, False)


class Told(Checked):

    def test_new(self):
        self.assertEqual(module.MAX_PLEDGES, 10)
        for book in (TWOTHREE, GLUE, REDS, LESS, LEVEL, FAR):
            self.check(Bench(book), book, [])
        self.assertEqual(str(Bench(TWOTHREE)), "bench with 21 drawings, 0 pledges")
        self.refuses_odd(InvalidBook, Bench, lambda value: isinstance(value, Book))

    def test_example(self):
        bench = Bench(TWOTHREE)
        self.assertEqual([bench.demand(("good", "put")), bench.erase(CUT), bench.undo(), bench.redo(), str(bench)],
                         [(), (("cut", False),), (("cut", True),), (("cut", False),),
                          "bench with 20 drawings, 1 pledges"])
        self.refused(Refused, bench.erase, "mend two(. !+1:two(. .)) to three(. . .)", pledge=("good", "put"))
        self.assertEqual([bench.during(lambda same: same.draw(CUT)), CUT in bench, ("good", "put") in bench],
                         [(("cut", True),), False, True])

    def test_news(self):
        bench = Bench(Book.from_lines(*T.lines, "put ^two"))
        told = [bench.draw(drawing.line) for drawing in TWOTHREE.drawings[1:]]
        self.assertEqual({news for news in told}, {(), (("put", True),), (("cut", True),)})
        self.assertEqual(bench.undo(many=20), (("put", False), ("cut", False)))
        self.assertEqual(bench.redo(many=20), (("put", True), ("cut", True)))
        self.assertEqual((bench.undo(many=0), bench.redo(many=0)), ((), ()))
        self.assertEqual(bench.draw("put two"), (("put", False),))
        self.assertEqual((bench.book.put_drawing.line, len(bench)), ("put two", 21))
        # Of joins the news tell nothing.
        self.assertEqual(bench.draw(GLUE_LINE), ())

    def test_news_of_both_kinds(self):
        bench = Bench(BOTH)
        bad, good = (("put", False), ("cut", False)), (("put", True), ("cut", True))
        for line in (TOP, "mend two(. !+0:new(. .)) to two(. two(. .))"):
            self.assertEqual([bench.erase(line), bench.undo(), bench.redo(), bench.draw(line)], [bad, good, bad, good])
        self.assertEqual(bench.erase("cut tri(x . .) to ^new(. .)"), (("cut", False),))
        self.assertEqual([bench.erase(TOP), bench.undo(many=2)], [(("put", False),), good])
        self.assertEqual(bench.undo(many=0), ())

    def test_in(self):
        bench = Bench(TWOTHREE)
        pledges = [("good", "put"), ("done", TWO, ("put", 1))]
        once = Bench(ONCE)
        once.demand(("most", "put", 3))
        for pledge in pledges:
            bench.demand(pledge)
        for value in [*odd_values(), TWOTHREE.put_drawing, ("good", "cut"), ["good", "put"], ("done", TWO, ("put",
                True)),
                      ("done", TWO, ("put", 0)), ("done", list(TWO), ("put", 1)), GLUE_LINE, T, TWOTHREE]:
            told = value in pledges or (isinstance(value, str) and value in TWOTHREE.lines and " to " in value)
            told = told or (isinstance(value, str) and value == "put ^two")
            told = told and repr(value).find("True") < 0
            self.assertIs(value in bench, told, value)
        for value in (("most", "put", True), ("most", "put", 2), ("most", "put", TOO_LONG)):
            self.assertIs(value in once, False)
        self.assertIs(("most", "put", 3) in once, True)

    def test_equal(self):
        bench = Bench(TWOTHREE)
        for value in [*odd_values(), TWOTHREE, Bench(GLUE)]:
            self.assertIs(bench == value, False)
            self.assertIs(bench != value, True)
        other = Bench(TWOTHREE)
        other.draw(GLUE_LINE)
        self.assertIs(bench == other, False)
        other.erase(GLUE_LINE)
        self.assertIs(bench == other, True)
        for one in (bench, other):
            one.demand(("good", "put" if one is bench else "cut"))
        self.assertIs(bench == other, False)
        bench.demand(("good", "cut"))
        other.demand(("good", "put"))
        # The pledges have the order of their demands.
        self.assertIs(bench == other, False)


class Histories(Checked):

    def lines_for(self, book):
        return [drawing.line for drawing in book] + [GLUE_LINE, "put two", "join t t +1 to two(. .)", "nonsense"]

    def check_history(self, book, number, many):
        """A history of changes by chance beside a list of pairs of a book and its pledges."""
        dice = random.Random(number)
        bench = Bench(book)
        story, at = [(book, ())], 0
        pledges = [("good", kind) for kind in ("put", "cut", "left", "right")] + [
            ("most", kind, most) for kind in ("put", "cut") for most in range(3)] + [
            ("done", rows, (kind, gap)) for rows in ((), TWO, tower(3)) for kind in ("put", "cut") for gap in range(2)]
        for _ in range(many):
            now, had = story[at]
            what = dice.choice(("draw", "draw", "erase", "erase", "demand", "demand", "waive", "undo", "redo", "trial"))
            if what in ("undo", "redo"):
                steps = dice.randrange(4)
                target = at + (steps if what == "redo" else -steps)
                call = bench.undo if what == "undo" else bench.redo
                if not 0 <= target < len(story):
                    self.refused(NothingToUndo, lambda: call(many=steps), many=steps)
                else:
                    self.assertEqual(call(many=steps), news_of(now, story[target][0]))
                    at = target
            elif what == "trial":
                with bench.trial() as same:
                    for pledge in same.pledges:
                        same.waive(pledge)
                    same.erase(dice.choice([line for line in same if not line.startswith("put")]))
                    same.undo(many=dice.randrange(2))
            else:
                told = dice.choice(self.lines_for(book) if what in ("draw", "erase") else pledges)
                after = self.changed(what, now, had, told)
                if isinstance(after, type):
                    self.refused(after, getattr(bench, what), told)
                elif isinstance(after, Exception):
                    self.refused(Refused, getattr(bench, what), told, pledge=after.pledge)
                else:
                    self.assertEqual(getattr(bench, what)(told), news_of(now, after[0]))
                    story[at + 1:] = [after]
                    at += 1
            self.assertEqual((bench.book, bench.pledges), story[at])
        self.check(bench, *story[at])
        for back in range(1, at + 1):
            bench.undo()
            self.assertEqual((bench.book, bench.pledges), story[at - back])
        self.refused(NothingToUndo, bench.undo)
        return len(story)

    def changed(self, what, book, pledges, told):
        """The book and the pledges behind a change; or the class of its error, or the error."""
        if what == "demand":
            if told in pledges or self.is_no_pledge(book, told):
                return InvalidOperation
            if len(pledges) == 10:
                return TooMany
            return (book, (*pledges, told)) if holds(book, told) else Refused(told)
        if what == "waive":
            return (book, tuple(other for other in pledges if other != told)) if told in pledges else InvalidOperation
        try:
            new = book.with_drawing(told) if what == "draw" else book.without(told)
        except (InvalidDrawing, InvalidBook, UnknownName) as error:
            return type(error)
        for pledge in pledges:
            if not holds(new, pledge):
                return Refused(pledge)
        return new, pledges

    def is_no_pledge(self, book, told):
        if told[0] != "done":
            return False
        try:
            shape = Shape(book.scheme, told[1])
        except Exception:
            return True
        return not (told[2][1] <= shape.size and (told[2][0] == "put" or shape.size))

    def test_histories(self):
        self.assertGreater(sum(self.check_history(book, number, 150) for number, book in enumerate(
            (TWOTHREE, GLUE, LESS, TWOTHREE, GLUE))), 60)

    def test_a_change_behind_an_undo(self):
        bench = Bench(TWOTHREE)
        bench.erase(CUT)
        bench.erase(SPLIT)
        bench.undo()
        bench.demand(("good", "put"))
        self.refused(NothingToUndo, bench.redo, many=1)
        self.assertEqual((bench.redo(many=0), bench.undo(many=2)), ((), (("cut", True),)))
        self.check(bench, TWOTHREE, [])
        self.assertEqual(bench.redo(many=2), (("cut", False),))
        self.check(bench, TWOTHREE.without(CUT), [("good", "put")])

    def test_an_error_leaves_what_can_be_done_again(self):
        bench = Bench(TWOTHREE)
        bench.demand(("good", "cut"))
        bench.draw(GLUE_LINE)
        bench.undo()
        for call in (lambda: bench.draw("put"), lambda: bench.erase("put"), lambda: bench.erase("put ^two"),
                     lambda: bench.erase(CUT), lambda: bench.demand(("good", "left")), lambda: bench.waive("put"),
                     lambda: bench.draw(CUT), lambda: bench.undo(many=9), lambda: bench.redo(many=9)):
            self.assertRaises((ValueError, LookupError, ArithmeticError, RuntimeError), call)
            self.check(bench, TWOTHREE, [("good", "cut")])
        self.assertEqual(bench.redo(), ())
        self.check(bench, GLUE, [("good", "cut")])

    def test_undo_and_redo_too_many(self):
        bench = Bench(TWOTHREE)
        for call in (bench.undo, bench.redo):
            self.refused(NothingToUndo, call, many=1)
            self.refused(NothingToUndo, lambda: call(many=10 ** 59), many=10 ** 59)
            self.assertEqual(call(many=0), ())
            self.assertRaises(TypeError, call, 1)
            for value in odd_values():
                if not (isinstance(value, int) and not isinstance(value, bool) and 0 <= value < TOO_LONG):
                    self.refused(InvalidNumber, lambda: call(many=value), value=value)
        bench.erase(CUT)
        self.refused(NothingToUndo, lambda: bench.undo(many=2), many=2)
        bench.undo()
        self.refused(NothingToUndo, lambda: bench.redo(many=2), many=2)


class Trials(Checked):

    def test_trials_within_trials(self):
        bench = Bench(TWOTHREE)
        bench.demand(("good", "put"))
        bench.erase(CUT)
        bench.undo()
        with bench.trial() as same:
            self.assertIs(same, bench)
            same.draw(GLUE_LINE)
            with same.trial() as inner:
                inner.waive(("good", "put"))
                inner.erase(SPLIT)
                self.check(bench, GLUE.without(SPLIT), [])
                inner.undo(many=3)
            self.check(bench, GLUE, [("good", "put")])
            same.undo(many=2)
            self.check(bench, TWOTHREE, [])
        self.check(bench, TWOTHREE, [("good", "put")])
        self.assertEqual(bench.redo(), (("cut", False),))
        self.assertEqual(bench.undo(many=2), (("cut", True),))
        self.refused(NothingToUndo, bench.undo, many=1)

    def test_errors_go_on(self):
        bench = Bench(TWOTHREE)
        bench.erase(CUT)
        for error in (KeyError("x"), Refused(3)):
            with self.assertRaises(type(error)) as caught:
                with bench.trial() as same:
                    same.undo()
                    same.draw(GLUE_LINE)
                    raise error
            self.assertIs(caught.exception, error)
            self.check(bench, TWOTHREE.without(CUT), [])
        with self.assertRaises(UnknownName):
            with bench.trial():
                bench.erase(SPLIT)
                bench.erase(SPLIT)
        self.check(bench, TWOTHREE.without(CUT), [])
        self.assertEqual(bench.undo(), (("cut", True),))
        self.assertEqual(bench.redo(), (("cut", False),))

    def test_during(self):
        bench = Bench(TWOTHREE)
        told = []
        self.assertEqual(bench.during(lambda same: (same is bench, same.erase(CUT), told.append(len(same)))),
                         (True, (("cut", False),), None))
        self.assertEqual((told, len(bench)), ([20], 21))
        self.assertIsNone(bench.during(lambda same: None))
        self.assertRaises(ZeroDivisionError, bench.during, lambda same: (same.erase(CUT), 1 // 0))
        self.assertEqual(bench.during(lambda same: same.during(lambda inner: inner.erase(CUT))), (("cut", False),))
        self.check(bench, TWOTHREE, [])
        self.refused(NothingToUndo, bench.undo, many=1)

    def test_twins(self):
        bench = Bench(TWOTHREE)
        bench.demand(("good", "put"))
        bench.erase(CUT)
        bench.draw(GLUE_LINE)
        bench.undo()
        twin = bench.twin()
        self.assertEqual((twin == bench, twin is bench), (True, False))
        self.assertEqual(twin.redo(), ())
        self.check(bench, TWOTHREE.without(CUT), [("good", "put")])
        self.check(twin, GLUE.without(CUT), [("good", "put")])
        self.assertEqual(bench.undo(many=2), (("cut", True),))
        self.check(twin, GLUE.without(CUT), [("good", "put")])
        self.assertEqual(twin.undo(many=3), (("cut", True),))
        self.refused(NothingToUndo, twin.undo, many=1)
        with bench.trial() as same:
            same.redo(many=2)
            kept = same.twin()
        self.check(kept, TWOTHREE.without(CUT), [("good", "put")])
        self.check(bench, TWOTHREE, [])


class Pledges(Checked):

    def test_pledges_of_all_sorts(self):
        bench = Bench(TWICE)
        fine = [("good", "put"), ("good", "cut"), ("most", "put", 3), ("most", "cut", 1), ("most", "put", 10 ** 59),
                ("done", (), ("put", 0))]
        for pledge in fine:
            self.assertEqual(bench.demand(pledge), ())
        self.check(bench, TWICE, fine)
        # All trees have the rank 0, so no join is one to the right.
        for pledge in (("good", "left"), ("most", "put", 2), ("most", "cut", 0)):
            self.refused(Refused, bench.demand, pledge, pledge=pledge)
        for pledge in fine:
            self.refused(InvalidOperation, bench.demand, pledge)
        self.check(bench, TWICE, fine)
        self.assertEqual(bench.waive(("good", "cut")), ())
        self.check(bench, TWICE, [pledge for pledge in fine if pledge != ("good", "cut")])
        self.refused(InvalidOperation, bench.waive, ("good", "cut"))

    def test_rings_have_no_most(self):
        bench = Bench(TWOTHREE)
        for kind in ("put", "cut"):
            for pledge in (("most", kind, 0), ("most", kind, 10 ** 59)):
                self.refused(Refused, bench.demand, pledge, pledge=pledge)
        self.refused(Refused, Bench(LESS).demand, ("most", "put", 99), pledge=("most", "put", 99))

    def test_deeds_that_are_done(self):
        bench = Bench(LESS)
        three = ("three", (None, None, None))
        for pledge in (("done", (three,), ("put", 1)), ("done", (three,), ("cut", 2)),
                       ("done", (three, three, ("two", (0, 1))), ("put", 0)), ("done", (), ("put", 0))):
            self.assertEqual(bench.demand(pledge), ())
        for pledge in (("done", (three,), ("put", 2)), ("done", (three, three, ("two", (0, 1))), ("put", 5))):
            self.refused(Refused, bench.demand, pledge, pledge=pledge)
        line = "mend three(. !+1:two(. .) .) to ^two(two(. .) two(. .))"
        self.refused(Refused, bench.erase, line, pledge=("done", (three,), ("put", 1)))

    def test_the_first_pledge_decides(self):
        bench = Bench(GLUE)
        pledges = [("good", "right"), ("good", "cut"), ("good", "put"), ("done", TWO, ("put", 0)), ("good", "left")]
        for pledge in pledges:
            bench.demand(pledge)
        up = "mend two(!+1:two(. .) .) to three(. . .)"
        self.refused(Refused, bench.erase, up, pledge=("good", "right"))
        bench.waive(("good", "right"))
        self.refused(Refused, bench.erase, up, pledge=("good", "put"))
        bench.waive(("good", "put"))
        self.refused(Refused, bench.erase, up, pledge=("done", TWO, ("put", 0)))
        self.refused(Refused, bench.erase, CUT, pledge=("good", "cut"))
        self.refused(Refused, bench.erase, GLUE_LINE, pledge=("good", "left"))
        self.refused(Refused, bench.draw, "put two", pledge=("done", TWO, ("put", 0)))
        bench.waive(("done", TWO, ("put", 0)))
        self.assertEqual(bench.erase(up), (("put", False),))
        self.check(bench, GLUE.without(up), [("good", "cut"), ("good", "left")])

    def test_ten_pledges_and_an_eleventh(self):
        bench = Bench(TWOTHREE)
        pledges = [("done", tower(3), ("put", gap)) for gap in range(10)]
        for pledge in pledges:
            bench.demand(pledge)
        for pledge in (("good", "put"), ("good", "left"), ("done", tower(3), ("put", 10))):
            self.refused(TooMany, bench.demand, pledge, limit=10)
        self.refused(InvalidOperation, bench.demand, pledges[3])
        self.refused(InvalidOperation, bench.demand, ("good", "join"))
        self.check(bench, TWOTHREE, pledges)
        bench.waive(pledges[0])
        self.assertEqual(bench.demand(("good", "put")), ())
        self.check(bench, TWOTHREE, [*pledges[1:], ("good", "put")])

    def test_values_that_are_no_pledges(self):
        bench = Bench(TWOTHREE)
        lean = (("two", (None, None)), ("two", (0, None)))
        wrong = [("good", "join"), ("good",), ("good", "put", 1), ("most", "left", 3), ("most", "put", -1), ("most",
                "put"),
                 ("most", "put", True), ("most", "put", TOO_LONG), ("most", "put", 3, 3), ("done", TWO), ["good",
                 "put"],
                 ("done", TWO, ("put", 2)), ("done", TWO, ("put", True)), ("done", TWO, ("mend", 0)), ("good", None),
                 ("done", (), ("cut", 0)), ("done", lean, ("put", 0)), ("done", (("red", (None, None)),), ("put", 0)),
                 ("done", list(TWO), ("put", 0)), ("done", TWO, ["put", 0]), ("Good", "put"), ("good", ["put"])]
        for value in [*odd_values(), *wrong]:
            if not repr(value) in ("('good', 'put')", "('done', (), ('put', 0))"):
                if repr(value) == "('most', 'put', 3)":
                    self.refused(Refused, bench.demand, value, pledge=value)
                else:
                    self.refused(InvalidOperation, bench.demand, value)
            self.refused(InvalidOperation, bench.waive, value)
        # Pledges are for the scheme: red trees are not right.
        for rows in ((("red", (None, None)),), (("two", (None, None)),)):
            self.refused(InvalidOperation, Bench(REDS).demand, ("done", rows, ("put", 0)))

    def test_plain_rows_and_others_are_unlike(self):
        bench = Bench(TWOTHREE)
        rows = (("two", (None, None)), ("two", (None, None)), ("two", (0, 1)))
        plain = (("two", (None, None)), ("two", (0, 0)))
        for told in (rows, plain):
            self.assertEqual(bench.demand(("done", told, ("cut", 1))), ())
        self.assertEqual(len(bench.pledges), 2)


class Wrong(Checked):

    def test_lines(self):
        bench = Bench(TWOTHREE)
        for value in odd_values():
            if value not in ("put ^two", "put two"):
                self.refused(InvalidDrawing, bench.draw, value)
            if value != "put ^two":
                self.refused(UnknownName, bench.erase, value, name=value)
        for line in (CUT, "put ^two", "mend two(!+1:two(. .) .) to three(. . .)",
                     "mend two(!-1:t two(. .)) to two(. two(. .))"):
            error = InvalidBook if line in TWOTHREE else InvalidDrawing
            self.refused(error, bench.draw, line)
        self.refused(InvalidBook, bench.draw, "cut two(. x) to .")
        self.refused(InvalidBook, bench.erase, "put ^two")
        self.check(bench, TWOTHREE, [])

    def test_drawings_that_clash(self):
        bench = Bench(TWOTHREE)
        bench.draw("join t t +0 to ^two(. .)")
        self.refused(InvalidBook, bench.draw, "join t t +0 to two(. .)")
        self.refused(InvalidBook, bench.draw, "join two(. .) t +0 to two(two(. .) .)")
        bench.demand(("good", "left"))
        self.refused(InvalidBook, bench.draw, "join two(. .) t +0 to two(two(. .) .)")

    def test_tables_that_are_too_great(self):
        late = Book.from_lines(*rings(3).lines, "put ^se")
        self.refused(TooMany, Bench, late, limit=100)
        self.refused(TooMany, Bench, wide_book(36), limit=20000)
        bench = Bench(wide_book(35))
        line = [drawing.line for drawing in wide_book(36) if drawing.line not in bench]
        self.refused(TooMany, bench.draw, line[0], limit=20000)
        self.refused(InvalidBook, bench.draw, next(iter(bench)))
        self.assertEqual(len(bench), len(wide_book(35)))

    def test_iterated(self):
        bench = Bench(TWOTHREE)
        for line in bench:
            if not line.startswith("put"):
                bench.erase(line)
        self.assertEqual(list(bench), ["put ^two"])
        self.assertEqual(bench.undo(many=20), (("put", True), ("cut", True)))

    def test_what_is_returned_is_not_shared(self):
        bench = Bench(TOPLESS)
        self.assertIsInstance(bench.pledges, tuple)
        book = bench.book
        bench.draw("top red(. .) to bb(. .)")
        self.assertEqual((book, bench.book), (TOPLESS, REDS))
