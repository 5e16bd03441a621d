"""Point 18.2: a shell."""

import random

from mendbooks.books.books import Book
from mendbooks.decide.least import is_good, is_paper
from mendbooks.decide.tables import DEEDS, Table
from mendbooks.decide.uses import lacking, most_drawings, spared
from mendbooks.errors import (
    InvalidBook, InvalidDrawing, InvalidNumber, InvalidOperation, InvalidScheme, InvalidShape, NoMend, NothingToUndo,
    ParseError, Refused, TooMany, UnknownName)
from mendbooks.mend.deeds import cut, put
from mendbooks.ranks.counts import count_right, each_right
from mendbooks.ranks.heights import greatest_height
from mendbooks.text.shell import Shell
from mendbooks.text.texts import read_paper, write_book, write_rows
from mendbooks.trees.shapes import Shape
from mendbooks.use.bench import Bench
from tests.books import GLUE, REDS, TWOTHREE, balanced_book
from tests.cases import Case
from tests.samples import TOO_LONG, odd_values
from tests.schemes import rings
from tests.test_bench import BOTH, TOP
from tests.test_least import FAR, TOPLESS
from tests.test_tables import LESS, LEVEL, wide_book
from tests.test_uses import ONCE, TWICE

SPLIT = "mend three(. . !+1:two(. .)) to ^two(two(. .) two(. .))"
CUT = "cut three(. x .) to two(. .)"
BOOKS = (TWOTHREE, GLUE, REDS, LESS, LEVEL, TOPLESS, FAR, ONCE, TWICE, balanced_book())


def shell_of(book):
    return Shell(write_book(book))


def told(lines):
    return "; ".join(lines) if lines else "nothing"


def news(pairs):
    return ", ".join(f"{kind} {'good' if good else 'bad'}" for kind, good in pairs) if pairs else "nothing"


def place_text(place):
    if place[0] == "mend":
        return f"mend {place[1]} {place[2]} {place[3]:+d} {place[4]}"
    return " ".join(map(str, place))


def error_word(error):
    """The answer for an error."""
    words = {InvalidDrawing: "drawing", InvalidBook: "book", InvalidShape: "shape", InvalidOperation: "operation",
             UnknownName: "unknown", InvalidNumber: "number", NothingToUndo: "undo"}
    if isinstance(error, TooMany):
        return f"many {error.limit}"
    if isinstance(error, Refused):
        return f"refused {' '.join(map(str, error.pledge))}"
    if isinstance(error, NoMend):
        return f"fails {place_text(error.where)}"
    return words[type(error)]


class Asked(Case):

    def answers(self, book, pairs):
        shell = shell_of(book)
        for line, answer in pairs:
            self.assertEqual(shell(line), answer, line)
        return shell

    def test_example(self):
        shell = shell_of(LESS)
        self.assertEqual([shell("good put"), shell("lack put"), shell("rows cut"), shell("do put 2 in three . . ."),
                          shell("demand good put"), shell("height 1000000")],
                         ["no", "mend three 2 +1 two(. .)", "56 rows, 0 open", "fails mend three 2 +1 two(. .)",
                          "refused good put", "19"])
        self.assertEqual([shell(f"draw {SPLIT}"), shell("demand good put"), shell("fly"), len(shell)],
                         ["put good", "nothing", "what", 6])

    def test_beside_the_functions(self):
        for book in BOOKS:
            pairs = [("lines", told(book.lines)), ("pledges", "nothing"),
                     ("unused", told([drawing.line for drawing in book if drawing not in spared(book)]))]
            for kind in DEEDS:
                table = Table(book, kind)
                many = len(table.open_rows) + len(table.open_starts)
                pairs += [(f"good {kind}", "yes" if is_good(book, kind) else "no"),
                          (f"rows {kind}", f"{len(table)} rows, {many} open")]
            for kind in ("put", "cut"):
                pairs.append((f"lack {kind}", told([place_text(place) for place in lacking(book, kind)])))
                most = "operation"
                if is_good(book, kind):
                    most = "none" if most_drawings(book, kind) is None else str(most_drawings(book, kind))
                pairs.append((f"most {kind}", most))
            for number in (0, 1, 7, 40):
                pairs.append((f"count {number}", str(count_right(book.scheme, number))))
            if book not in (LEVEL, ONCE, TWICE):
                pairs += [(f"height {number}", str(greatest_height(book.scheme, number)))
                          for number in (0, 1, 7, 10 ** 12)]
            shell = self.answers(book, pairs)
            self.assertEqual(len(shell), len([answer for _, answer in pairs if answer != "operation"]))

    def test_papers(self):
        for book in BOOKS:
            shell = shell_of(book)
            for kind in DEEDS:
                answer = shell(f"paper {kind}")
                if is_good(book, kind):
                    self.assertEqual(answer, "good")
                else:
                    self.assertIs(is_paper(book, kind, read_paper("\n".join(answer.split("; ")))), True)
        self.assertEqual(shell_of(LESS)("paper put"), "bad put 2; three . . .")
        self.assertEqual(shell_of(TOPLESS)("paper put"), "bad put 0; -")
        self.assertEqual(shell_of(LESS)("paper right"), "bad join; -; with; two . .")
        self.assertEqual(shell_of(LESS)("paper left"), "bad join; -; with; -")

    def test_deeds(self):
        for book in (TWOTHREE, LESS, REDS):
            shell = shell_of(book)
            for shape in [shape for keys in range(5) for shape in each_right(book.scheme, keys)]:
                rows = told(write_rows(shape.rows).split("\n"))
                for call, kind in ((put, "put"), (cut, "cut")):
                    for gap in range(shape.size + 2):
                        try:
                            answer = told(write_rows(call(book, shape, gap).rows).split("\n"))
                        except (NoMend, InvalidNumber, InvalidOperation) as error:
                            answer = error_word(error)
                        self.assertEqual(shell(f"do {kind} {gap} in {rows}"), answer)
        shell = shell_of(TWOTHREE)
        self.assertEqual(shell("do put 0 in -"), "two . .")
        self.assertEqual(shell("do cut 0 in two . ."), "-")
        self.assertEqual(shell("do cut 0 in -"), "operation")
        self.assertEqual(shell("do put 5 in two . .; two . .; two 0 1"), "number")
        self.assertEqual(shell("do put 3 in two . .; two . .; two 0 1"), "two . .; three . . .; two 0 1")
        for rows in ("two . .; two 0 .", "two . .; two . .", "red . .", "two . . .", "three . ."):
            self.assertEqual(shell(f"do put 0 in {rows}"), "shape")
        self.assertEqual(shell_of(REDS)("do put 0 in red . ."), "shape")
        for rows in ("", "two", "two .", "two 0 .", "-; -", "two . .;two 0 0", "two . .; ", "two . . ", "two  . .",
                "two 0 0",
                     "two . .;  two 0 0"):
            self.assertEqual(shell(f"do put 0 in {rows}"), "what")

    def test_a_form_called_in(self):
        book = Book.from_lines("bare t", "tops t", "form in t t0 t0", "put in")
        self.assertEqual(shell_of(book)("do put 1 in in . ."), "in . .; in . 0")

    def test_news_and_pledges(self):
        shell = self.answers(TWOTHREE, [
            ("demand good put", "nothing"), ("demand good put", "operation"), ("pledges", "good put"),
            (f"erase {CUT}", "cut bad"), ("good cut", "no"), ("undo", "cut good"), ("redo", "cut bad"), ("redo",
            "undo"),
            (f"erase {SPLIT}", "refused good put"), ("demand most put 3", "refused most put 3"),
            ("demand good cut", "refused good cut"), ("waive good cut", "operation"), ("waive good put", "nothing"),
            ("pledges", "nothing"), (f"erase {SPLIT}", "put bad"), ("erase put ^two", "book"), ("erase put two",
            "unknown"),
            ("draw put two", "nothing"), ("undo", "nothing"), ("undo", "put good"), ("draw put ^two", "book"),
            ("draw put ^four", "drawing"), ("draw join t t +0 to ^two(. .)", "nothing"), ("demand good left",
            "nothing"),
            ("demand good right", "nothing"), ("pledges", "good left; good right"),
            ("erase join t t +0 to ^two(. .)", "refused good left")])
        self.assertEqual(shell.bench().pledges, (("good", "left"), ("good", "right")))
        self.answers(TWICE, [("demand most put 3", "nothing"), ("demand most put 2", "refused most put 2"),
                             ("demand most cut 1", "nothing"), ("pledges", "most put 3; most cut 1"),
                             ("most put", "3"), ("waive most put 3", "nothing"), ("pledges", "most cut 1")])
        self.answers(BOTH, [(f"erase {TOP}", "put bad, cut bad"), ("undo", "put good, cut good"),
                            ("redo", "put bad, cut bad"), (f"draw {TOP}", "put good, cut good")])
        self.answers(LEVEL.without("cut two(x .) to ."), [
            ("draw cut two(x .) to .", "cut good"), ("undo", "cut bad"), ("lack cut", "cut two 0"), ("lack put",
            "nothing")])

    def test_places(self):
        self.answers(TOPLESS, [("lack put", "top red(. .)"), ("do put 0 in -", "fails top red(. .)")])
        self.answers(LESS.without(CUT), [("lack cut", "cut three 1"), ("do cut 1 in three . . .", "fails cut three 1"),
                                         ("lack put", "mend three 2 +1 two(. .)")])
        less = TWOTHREE.without("mend two(!-1:t two(. .)) to three(. . .)")
        self.answers(less, [("lack cut", "mend two 0 -1 t")])
        self.answers(Book.from_lines(*TWOTHREE.scheme.lines, "put ^two", "cut two(x .) to ."), [
            ("lack cut", "cut three 0; cut three 1; cut three 2; cut two 1; mend three 0 -1 t; mend three 1 -1 t; "
                         "mend three 2 -1 t; mend two 0 -1 t; mend two 1 -1 t")])

    def test_unused(self):
        more = REDS.with_drawing("top lred(red(. .) .) to rb(red(. .) .)").with_drawing("cut red(x .) to .")
        self.assertEqual(shell_of(more)("unused"), "top lred(red(. .) .) to rb(red(. .) .)")
        self.assertEqual(shell_of(GLUE)("unused"), "nothing")

    def test_numbers(self):
        self.answers(TWOTHREE, [
            ("count 40", str(count_right(TWOTHREE.scheme, 40))), ("count 41", "number"), ("count 0", "1"),
            ("height 0", "0"), (f"height {TOO_LONG - 1}", "many 100"), (f"height {TOO_LONG}", "number"),
            (f"count {TOO_LONG}", "number"), (f"do put {TOO_LONG} in -", "number"),
            (f"demand most put {TOO_LONG}", "operation"), (f"waive most put {TOO_LONG}", "operation")])
        self.assertEqual(shell_of(LEVEL)("height 101"), "many 100")

    def test_ten_pledges(self):
        shell = shell_of(TWICE)
        for number in range(3, 13):
            self.assertEqual(shell(f"demand most put {number}"), "nothing")
        self.assertEqual((shell("demand most put 13"), shell("demand good cut")), ("many 10", "many 10"))
        self.assertEqual((shell("demand most put 12"), len(shell)), ("operation", 10))

    def test_tables_that_are_too_great(self):
        shell = shell_of(wide_book(35))
        line = [drawing.line for drawing in wide_book(36) if drawing.line not in wide_book(35)][0]
        self.assertEqual(shell(f"draw {line}"), "many 20000")
        self.assertEqual(shell("rows put"), "20000 rows, 19999 open")

    def test_values_that_are_no_commands(self):
        shell = shell_of(TWOTHREE)
        values = [value for value in odd_values() if value not in ("put ", "mend ")]
        for value in [*values, "", " ", "good", "good ", "good  put", "good put ", " good put", "good putt",
                "good join",
                      "Good put", "lack left", "lack right", "lack", "most left", "most", "undo 1", "undo ", " undo",
                      "redo x",
                      "lines ", "lines x", "pledges x", "unused x", "rows", "rows t", "paper", "paper t",
                      "paper put cut",
                      "height", "height x", "height -1", "height +1", "height 01", "height 1 2", "height 1.5", "count",
                      "count 00", "count 1 ", "do", "do put", "do put 1", "do put in -", "do put 1 in", "do put 1 on -",
                      "do put x in -", "do put 01 in -", "do mend 1 in -", "do put 1 2 in -", "demand", "demand put",
                      "demand good", "demand good join", "demand most put", "demand most left 3", "demand most put x",
                      "demand most put -1", "demand most put 01", "demand good put ", "demand done", "waive",
                      "waive good x",
                      "waive most cut", "good put\n", "lines\n", "undo\nundo", "draw", "erase", "fly", "what",
                      "bench", "run",
                      "draw put\n^two", "height " + "9" * 3990, b"lines", ["lines"], ("lines",), 3.5]:
            answer = shell(value)
            self.assertEqual(answer, "number" if value == "height " + "9" * 3990 else "what", repr(value)[:60])
        self.assertEqual((len(shell), shell.bench() == Bench(TWOTHREE)), (0, True))

    def test_run(self):
        shell = shell_of(TWOTHREE)
        self.assertEqual([shell.run("good put"), shell("good put"), shell.run("fly"), shell.run(None), len(shell)],
                         ["yes", "yes", "what", "what", 2])
        self.assertRaises(TypeError, iter, shell)

    def test_wrong_texts(self):
        for value in odd_values():
            if not isinstance(value, str):
                self.refused(ParseError, Shell, value, number=None)
            else:
                self.assertIsInstance(self.error_of(value), (ParseError, InvalidScheme, InvalidBook))
        self.refused(ParseError, Shell, "bare t\nfly", number=1)
        self.refused(InvalidScheme, Shell, "bare t\ntops t")
        self.refused(InvalidBook, Shell, "bare t\ntops t\nform two t t1 t1")
        self.refused(TooMany, Shell, "\n".join([*rings(3).lines, "put ^se"]), limit=100)
        self.refused(TooMany, Shell, write_book(wide_book(36)), limit=20000)

    def error_of(self, text):
        try:
            Shell(text)
        except Exception as error:
            return error
        return None


class Histories(Case):

    def check_history(self, book, number, many):
        """A history of commands beside a bench on which the same is done."""
        dice = random.Random(number)
        shell, bench = shell_of(book), Bench(book)
        lines = [*[drawing.line for drawing in book], "put two", "join t t +0 to ^two(. .)",
                "join t t +0 to two(. .)", "put"]
        count = 0
        for _ in range(many):
            word = dice.choice(("draw", "erase", "erase", "demand", "demand", "waive", "undo", "redo"))
            pledge = dice.choice([("good", kind) for kind in DEEDS] + [
                ("most", kind, number) for kind in ("put", "cut") for number in (0, 1, 3)])
            line = dice.choice(lines)
            arguments = {"draw": [line], "erase": [line], "demand": [pledge], "waive": [pledge]}.get(word, [])
            asked = " ".join([word, *[part if isinstance(part, str) else " ".join(map(str,
                    part)) for part in arguments]])
            try:
                answer = news(getattr(bench, word)(*arguments))
                count += 1
            except (ValueError, LookupError, ArithmeticError, RuntimeError) as error:
                answer = error_word(error)
            self.assertEqual(shell(asked), answer, asked)
            self.assertEqual(len(shell), count)
            self.assertEqual(shell.bench(), bench)
            self.assertEqual(shell("lines"), told(bench.book.lines))
            self.assertEqual(shell("pledges"), told([" ".join(map(str, part)) for part in bench.pledges]))
            count += 2
        return count

    def test_histories(self):
        for number, book in enumerate((TWOTHREE, GLUE, LESS, TWICE, TOPLESS)):
            self.assertGreater(self.check_history(book, number, 80), 170)

    def test_twins(self):
        shell = shell_of(TWOTHREE)
        shell(f"erase {CUT}")
        bench = shell.bench()
        self.assertEqual(bench.undo(), (("cut", True),))
        self.assertEqual(shell("good cut"), "no")
        self.assertEqual((shell("undo"), shell.bench().redo()), ("cut good", (("cut", False),)))
        self.assertEqual(shell("redo"), "cut bad")
        bench.demand(("done", (), ("put", 0)))
        self.assertEqual(shell("pledges"), "nothing")

    def test_shapes_left(self):
        shell = shell_of(TWOTHREE)
        shape = Shape(TWOTHREE.scheme, ())
        rows = "-"
        for gap in (0, 1, 0, 2, 3, 1, 6, 4):
            rows = shell(f"do put {gap} in {rows}")
            shape = put(TWOTHREE, shape, gap)
            self.assertEqual(rows, told(write_rows(shape.rows).split("\n")))
