"""Point 18.1, and the first three sections of the eighteenth stage: texts."""

import itertools
import random

from mendbooks.books.books import Book, mirrored_book
from mendbooks.decide.joins import join_paper
from mendbooks.decide.least import is_paper, paper
from mendbooks.decide.tables import DEEDS, Table
from mendbooks.errors import InvalidBook, InvalidPaper, InvalidScheme, InvalidShape, ParseError
from mendbooks.ranks.counts import each_right
from mendbooks.text.texts import read_book, read_paper, read_rows, write_book, write_paper, write_rows
from tests.books import GLUE, REDS, TWOTHREE, balanced_book
from tests.cases import Case
from tests.samples import LONGEST, TOO_LONG, odd_values, same
from tests.test_deeds import tower
from tests.test_least import TOPLESS
from tests.test_tables import LESS, LEVEL, with_ranks

TWO = ("two", (None, None))
BOOKS = (TWOTHREE, GLUE, REDS, LESS, LEVEL, TOPLESS, balanced_book(), mirrored_book(REDS))


class Books(Case):

    def test_there_and_back(self):
        for book in (*BOOKS, *with_ranks(range(1300, 1330))):
            text = write_book(book)
            self.assertEqual(text, "\n".join(book.lines))
            self.assertEqual(read_book(text), book)
            self.assertEqual(read_book("\n".join(book.lines[::-1])), book)

    def test_wrong_books(self):
        self.refuses_odd(InvalidBook, write_book, lambda value: isinstance(value, Book))

    def test_values_that_are_no_texts(self):
        for value in odd_values():
            if not isinstance(value, str):
                for call in (read_book, read_rows, read_paper):
                    self.refused(ParseError, call, value, number=None)

    def test_wrong_lines(self):
        lines = list(TWOTHREE.lines)
        for at in range(len(lines)):
            for line in ("", " ", lines[at] + " ", " " + lines[at], lines[at].replace(" ", "  ", 1), "nonsense"):
                text = "\n".join([*lines[:at], line, *lines[at + 1:]])
                self.refused(ParseError, read_book, text, number=at)
        self.refused(ParseError, read_book, "", number=0)
        self.refused(ParseError, read_book, write_book(TWOTHREE) + "\n", number=len(lines))
        self.refused(ParseError, read_book, write_book(TWOTHREE).replace("\n", "\r\n", 1), number=0)

    def test_errors_in_their_order(self):
        self.refused(InvalidScheme, read_book, "bare t\ntops u\nput ^two")
        self.refused(ParseError, read_book, "put ^two\nfly\nbare t\ntops u", number=1)
        self.refused(ParseError, read_book, "put ^one\nbare t\ntops t\nform two t t1 t1", number=0)
        self.refused(InvalidBook, read_book, "bare t\ntops t\nform two t t1 t1")
        self.refused(InvalidBook, read_book, "bare t\ntops t\nform two t t1 t1\nput two\nput ^two")


class Rows(Case):

    def test_there_and_back(self):
        for book in BOOKS:
            for shape in [shape for keys in range(7) for shape in itertools.islice(each_right(book.scheme, keys), 20)]:
                text = write_rows(shape.rows)
                self.assertEqual(read_rows(text), shape.rows)
                self.assertEqual(text.count("\n"), max(len(shape) - 1, 0))
        for rows in ((), (TWO,), (TWO, TWO), (TWO, ("four", (0, None, 0, None))), tower(900)):
            self.assertTrue(same(read_rows(write_rows(rows)), rows))

    def test_told(self):
        self.assertEqual(write_rows(()), "-")
        self.assertEqual(write_rows((TWO, ("two", (0, 0)))), "two . .\ntwo 0 0")
        self.assertEqual(write_rows((TWO, TWO, ("three", (1, None, 0)))), "two . .\ntwo . .\nthree 1 . 0")
        # A row need not be a child of a later one.
        self.assertEqual(read_rows("two . .\nthree . . ."), (TWO, ("three", (None, None, None))))
        self.assertEqual(read_rows("with . .\ntop 0 ."), (("with", (None, None)), ("top", (0, None))))

    def test_wrong_rows(self):
        fine = ((), (TWO,), (("three", (None, None, None)),))
        for value in odd_values():
            if not any(same(value, rows) for rows in fine):
                self.refused(InvalidShape, write_rows, value)
        for rows in ((("two", (0, None)),), (TWO, ("two", (1, None))), (TWO, ("two", (-1, None))), (("two", (None,)),),
                     (("two", (None,) * 5),), (("Two", (None, None)),), (TWO, ("two", (False, None))), [TWO],
                     (TWO, ["two", (None, None)]), (TWO, ("two", [None, None])), (("two", (None, None), 0),), (TWO, ()),
                     (("", (None, None)),), (TWO, ("two", (TOO_LONG, None))), (TWO, None), (("two", "00"),)):
            self.refused(InvalidShape, write_rows, rows)

    def test_wrong_texts(self):
        for text, number in (
                ("", 0), ("\n", 0), ("two . .\n", 1), ("-\n", 0), ("-\n-", 0), ("two . .\n-", 1), ("-\ntwo . .", 0),
                ("- ", 0), (" -", 0), ("two", 0), ("two .", 0), ("two . . . . .", 0), ("Two . .", 0), ("two 0 .", 0),
                ("two . .\ntwo 1 .", 1), ("two . .\ntwo 00 .", 1), ("two . .\ntwo +0 .", 1), ("two . .\ntwo -0 .", 1),
                ("two . .\ntwo -1 .", 1), ("two . .\ntwo 0  .", 1), ("two . .\ntwo 0 . ", 1), ("two . .\n two 0 .", 1),
                ("two . .\n\ntwo 0 .", 1), ("two . .\ntwo 0 .\ntwo 01 .", 2), ("two . .\ntwo x .", 1),
                ("two  . .", 0), ("two\t. .", 0), (". .", 0), ("two . .;", 0), ("two . .; two 0 0", 0),
                ("two . .\ntwo " + "9" * 3000 + " .", 1), ("abcdefghi . .", 0), ("two . .\ntwo None .", 1)):
            self.refused(ParseError, read_rows, text, number=number)
        for value in odd_values():
            if isinstance(value, str):
                self.refused(ParseError, read_rows, value, number=0)

    def test_eleven_rows(self):
        rows = (*[TWO] * 11, ("three", (10, 9, 0)))
        self.assertEqual(write_rows(rows).split("\n")[-1], "three 10 9 0")
        self.assertEqual(read_rows(write_rows(rows)), rows)


class Papers(Case):

    def check(self, value, text):
        self.assertEqual(write_paper(value), text)
        self.assertTrue(same(read_paper(text), value))

    def test_papers_of_books(self):
        for book in (*BOOKS, *with_ranks(range(1330, 1350))):
            for kind in DEEDS:
                told = paper(book, kind)
                text = write_paper(told)
                self.assertTrue(same(read_paper(text), told))
                self.assertIs(is_paper(book, kind, read_paper(text)), True)
            told = join_paper(book)
            if told[0] == "bad":
                self.assertTrue(same(read_paper(write_paper(told)), told))
            else:
                self.refused(InvalidPaper, write_paper, told)

    def test_told(self):
        whole, row = ("", 0, 0, "two(. .)", 0), ("two", 0, 1, "two(. .)", 1)
        self.check(("good", ()), "good")
        self.check(("good", (whole, row)), "good\ntop two(. .)\ntwo 0 +1 two(. .) 1")
        self.check(("good", (("", 0, 0, "t", 0),)), "good\ntop t")
        self.check(("good", (("three", 0, 1, "two(. .)", 7),)), "good\nthree 0 +1 two(. .) 7")
        self.check(("good", (("top", 3, -12, "a(b(. .) . .)", 0), ("top", 3, 0, "t", LONGEST), ("top", 3, 12, "t",
                10))),
                   f"good\ntop 3 -12 a(b(. .) . .) 0\ntop 3 +0 t {LONGEST}\ntop 3 +12 t 10")
        self.check(("bad", (TWO,), ("put", 2)), "bad put 2\ntwo . .")
        self.check(("bad", (), ("cut", 0)), "bad cut 0\n-")
        self.check(("bad", (TWO, TWO), ("cut", LONGEST)), f"bad cut {LONGEST}\ntwo . .\ntwo . .")
        self.check(("bad", (), ()), "bad join\n-\nwith\n-")
        self.check(("bad", (TWO,), ()), "bad join\ntwo . .\nwith\n-")
        self.check(("bad", (), (TWO, ("two", (0, 0)))), "bad join\n-\nwith\ntwo . .\ntwo 0 0")
        # A form can have the names of these words, too.
        self.check(("bad", (("with", (None, None)),), (("bad", (None, None)),)),
                   "bad join\nwith . .\nwith\nbad . .")
        self.check(("good", (("good", 0, 0, "top", 0),)), "good\ngood 0 +0 top 0")

    def test_rows_of_all_sorts(self):
        for book in BOOKS:
            for kind in DEEDS:
                rows = Table(book, kind).rows
                text = write_paper(("good", rows))
                self.assertTrue(same(read_paper(text), ("good", rows)))
                self.assertEqual(len(text.split("\n")), len(rows) + 1)

    def test_wrong_papers(self):
        fine = [("good", ()), ("bad", (), ("put", 0)), ("bad", (), ()), ("good", (("", 0, 0, "t", 0),))]
        for value in odd_values():
            if not any(same(value, told) for told in fine):
                self.refused(InvalidPaper, write_paper, value)
            if not any(same(value, told[1]) for told in fine[::3]):
                self.refused(InvalidPaper, write_paper, ("good", value))
            self.refused(InvalidPaper, write_paper, ("join", value))
            if not (same(value, ("put", 0)) or same(value, ("cut", 0)) or self.is_rows(value)):
                self.refused(InvalidPaper, write_paper, ("bad", (), value))
            if not self.is_rows(value):
                self.refused(InvalidPaper, write_paper, ("bad", value, ("put", 0)))
                self.refused(InvalidPaper, write_paper, ("bad", value, ()))

    def is_rows(self, value):
        return any(same(value, rows) for rows in ((), (TWO,), (("three", (None, None, None)),)))

    def test_wrong_rows_of_tables(self):
        row = ("two", 0, 1, "two(. .)", 1)
        self.assertEqual(write_paper(("good", (row,))), "good\ntwo 0 +1 two(. .) 1")
        for at, values in enumerate((
                ("", "Two", "abcdefghi", 0, None, "t "), (4, -1, True, "0", None), (13, -13, True, None, TOO_LONG),
                (".", "", "t(. .", "two(.)", "two(.  .)", "^two(. .)", 0, None, "T"), (-1, TOO_LONG, True, None, "1"))):
            for value in values:
                wrong = (*row[:at], value, *row[at + 1:])
                self.refused(InvalidPaper, write_paper, ("good", (wrong,)))
        for wrong in (("", 1, 0, "t", 0), ("", 0, 1, "t", 0), ("", 0, 0, "t", 1), ("", 0, 0, ".", 0),
                      ("", False, 0, "t", 0), (*row, 0), row[:4], list(row), None):
            self.refused(InvalidPaper, write_paper, ("good", (wrong,)))
        later = ("two", 1, 1, "two(. .)", 1)
        self.assertEqual(read_paper(write_paper(("good", (row, later)))), ("good", (row, later)))
        for rows in ((row, row), (later, row), [row], (row, ("", 0, 0, "t", 0))):
            self.refused(InvalidPaper, write_paper, ("good", rows))
        for told in (("good", (row,), (row,)), ("good",), ["good", (row,)], ("bad", ()), ("bad", (), ("put", -1)),
                     ("bad", (), ("put", True)), ("bad", (), ("join", 0)), ("bad", (), ("put", 0, 0)), ("bad", (),
                     ["put", 0]),
                     ("bad", (), ("put", TOO_LONG)), ("bad", (row,), ("put", 0)), ("Good", ()), ("bad", (), (), ())):
            self.refused(InvalidPaper, write_paper, told)

    def test_wrong_first_lines(self):
        for text in ("", "Good", "good ", " good", "bad", "bad put", "bad put -1", "bad put 02", "bad put +2",
                "bad mend 2",
                     "bad put 2 3", "bad  put 2", "bad put 2 ", "bad join ", "join", "two . .", "-", "bad put x",
                     "bad put " + str(TOO_LONG), "bad left", "paper"):
            self.refused(ParseError, read_paper, text, number=0)
            self.refused(ParseError, read_paper, text + "\n-", number=0)

    def test_wrong_lines_of_good_papers(self):
        for line in ("", "top", "top ", "top  t", "top t ", "top T", "top .", "top two(.)", "top t u", "two 0 +1 t",
                "two 0 1 t 1",
                     "two 0 +1 t 01", "two 00 +1 t 1", "two 4 +1 t 1", "two -1 +1 t 1", "two 0 +13 t 1", "two 0 -0 t 1",
                     "two 0 +01 t 1", "two 0 +1 . 1", "two 0 +1 two(. . 1", "two 0 +1 t +1", "two 0 +1 t -1",
                     "Two 0 +1 t 1",
                     "two 0 +1 t 1 ", " two 0 +1 t 1", "two  0 +1 t 1", "two 0 +1 two(.  .) 1", "-", "bad put 2",
                     "good",
                     f"two 0 +1 t {TOO_LONG}", "two 0 +1 t 1 1", "two . ."):
            self.refused(ParseError, read_paper, f"good\n{line}", number=1)
            self.refused(ParseError, read_paper, f"good\ntop a\n{line}\ntop T", number=2)
        # Each row has to ascend.
        for lines, number in ((("top t", "top t"), 2), (("two 0 +1 t 1", "top t"), 2), (("a 0 +0 t 9", "a 0 +0 t 10"),
                None),
                              (("a 0 +0 t 10", "a 0 +0 t 9"), 2), (("a 0 -1 t 1", "a 0 +1 t 1", "a 0 +0 t 1"), 3),
                              (("a 1 +1 t 1", "a 1 +1 t 1"), 2)):
            text = "\n".join(["good", *lines])
            if number is None:
                self.assertEqual(write_paper(read_paper(text)), text)
            else:
                self.refused(ParseError, read_paper, text, number=number)

    def test_wrong_lines_of_bad_papers(self):
        for text, number in (
                ("bad put 2", 1), ("bad put 2\n", 1), ("bad put 2\ntwo . .\n", 2), ("bad put 2\ntwo . .\ntwo 1 .", 2),
                ("bad put 2\n-\n-", 1), ("bad put 2\ntwo . .\n-", 2), ("bad put 2\ntwo . .\nwith\n-", 2),
                ("bad put 2\nwith", 1), ("bad join", 1), ("bad join\n-", 2), ("bad join\n-\nwith", 3),
                ("bad join\ntwo . .\ntwo 0 .", 3), ("bad join\nwith\n-", 1), ("bad join\nwith", 1), ("bad join\n", 1),
                ("bad join\ntwo . .\nwith\n", 3), ("bad join\ntwo . .\nwith\ntwo 0 .", 3),
                ("bad join\ntwo 0 .\nwith\n-", 1),
                ("bad join\n-\nwith \n-", 1), ("bad join\ntwo . .\nwith \n-", 2), ("bad join\n-\nwith\n-\n", 3)):
            self.refused(ParseError, read_paper, text, number=number)

    def test_texts_that_end_too_early(self):
        for told in (("bad", (TWO, ("two", (0, 0))), ("put", 1)), ("bad", (TWO,), (TWO,)), ("bad", (), ())):
            lines = write_paper(told).split("\n")
            for many in range(1, len(lines)):
                text = "\n".join(lines[:many])
                if many == 1 or told[2] != ("put", 1):
                    self.refused(ParseError, read_paper, text, number=many)


class Changed(Case):

    def test_each_text_is_read_in_one_way(self):
        # What can be read is written again as just the same text.
        dice = random.Random(7)
        read = 0
        for call, back, texts in (
                (read_rows, write_rows, ("two . .\nthree 0 . 0", "-", "two . .\ntwo 0 0\ntwo 1 0")),
                (read_paper, write_paper, ("good\ntop two(. .)\ntwo 0 +1 two(. .) 1", "bad put 2\ntwo . .\ntwo 0 0",
                                           "bad join\n-\nwith\ntwo . .", "good"))):
            for _ in range(4000):
                signs = list(dice.choice(texts))
                for _ in range(dice.randrange(4)):
                    at = dice.randrange(len(signs) + 1)
                    signs[at:at + dice.randrange(2)] = dice.choice(["", *"abt .()!+-^012\n"])
                text = "".join(signs)
                try:
                    told = call(text)
                except ParseError as error:
                    self.assertTrue(0 <= error.number <= text.count("\n") + 1)
                    continue
                self.assertEqual(back(told), text)
                read += 1
        self.assertGreater(read, 2000)
