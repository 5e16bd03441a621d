"""Point 0.14 and the fifth stage: books."""

import itertools

from mendbooks.base.forms import Scheme, mirrored_scheme, renamed_scheme
from mendbooks.books import books
from mendbooks.books.books import Book, choice, mirrored_book, renamed_book
from mendbooks.books.drawings import KINDS, Drawing
from mendbooks.errors import InvalidBook, InvalidDrawing, InvalidOperation, InvalidScheme, ParseError, UnknownName
from tests import chance
from tests.books import GLUE, REDS, REDS_LINES, TWOTHREE, balanced_book
from tests.cases import Case
from tests.naive import Plan
from tests.samples import HEIGHTS, TOO_LONG, odd_values

T = TWOTHREE.scheme
PUT = Drawing(T, "put ^two")
CUTS = tuple(Drawing(T, line) for line in ("cut two(x .) to .", "cut two(. x) to ."))


def great_lines(many):
    """The lines of a book with so many drawings: one put, cuts, and joins that are apart."""
    names = "abcdefghijklmnop"
    forms = [f"form {name} t t{index % 4} t{index // 4}" for index, name in enumerate(names)]
    cuts = [f"cut {name}({ends}) to ." for name in names for ends in ("x .", ". x")]
    joins = [f"join {name}(. .) {other}(. .) +0 to a({name}(. .) {other}(. .))"
             for name, other in itertools.product(names, names)]
    return ["bare t", "tops t", *forms, "put a", *(cuts + joins)[:many - 1]]


class Made(Case):

    def test_constant(self):
        self.assertEqual(books.MAX_DRAWINGS, 150)

    def test_order_of_drawings(self):
        for book in (TWOTHREE, GLUE, REDS, balanced_book()):
            told = sorted(book.drawings, key=lambda drawing: (KINDS.index(drawing.kind), drawing.line))
            self.assertEqual(list(book.drawings), told)
            self.assertEqual(list(book), told)
            self.assertEqual(book.put_drawing, told[0])
            self.assertEqual(book.lines, book.scheme.lines + tuple(drawing.line for drawing in told))
            self.assertEqual(len(book), len(told))
            for turned in (tuple(told[::-1]), tuple(told[5:] + told[:5])):
                self.assertEqual(Book(book.scheme, turned), book)

    def test_places(self):
        for book in (TWOTHREE, GLUE, REDS):
            self.assertEqual(book.places, tuple(sorted({Plan(drawing).place for drawing in book})))
        self.assertEqual(len(TWOTHREE.places), 16)
        self.assertEqual(GLUE.places[5], ("join", "t", "t", 0))

    def test_str(self):
        self.assertEqual([str(GLUE), str(REDS)], ["book of 2 forms, 22 drawings", "book of 7 forms, 16 drawings"])

    def test_no_put_and_two(self):
        self.refused(InvalidBook, Book, T, CUTS)
        self.refused(InvalidBook, Book, T, ())
        self.refused(InvalidBook, Book, T, (PUT, Drawing(T, "put two")))
        self.refused(InvalidBook, Book, T, (PUT, PUT))
        self.assertEqual(Book(T, (PUT,)).drawings, (PUT,))

    def test_drawings_of_one_place(self):
        two, three, low = [Drawing(T, line) for line in (
            "mend two(!-1:t two(. .)) to three(. . .)", "mend two(!-1:t three(. . .)) to two(two(. .) two(. .))",
            "mend two(!-1:t two(two(. .) .)) to three(. two(. .) .)")]
        self.assertEqual(len(Book(T, (three, PUT, two))), 3)
        self.assertEqual(len(Book(T, (three, PUT, low))), 3)
        self.refused(InvalidBook, Book, T, (PUT, two, low))
        self.refused(InvalidBook, Book, T, (PUT, two, three, low))
        self.refused(InvalidBook, Book, T, (PUT, two, two))

    def test_other_schemes(self):
        less = T.without("three")
        self.refused(InvalidBook, Book, less, (PUT,))
        self.refused(InvalidBook, Book, T, (PUT, Drawing(less, "cut two(x .) to .")))
        self.assertEqual(Book(Scheme.from_lines(*T.lines), (PUT,)), Book(T, (PUT,)))

    def test_150_and_151_drawings(self):
        book = Book.from_lines(*great_lines(150))
        self.assertEqual(len(book), 150)
        self.refused(InvalidBook, Book.from_lines, *great_lines(151))
        self.refused(InvalidBook, book.with_drawing, great_lines(151)[-1])
        self.assertEqual(len(Book.from_lines(*great_lines(149)).with_drawing(great_lines(150)[-1])), 150)
        self.assertEqual(len(book.with_drawing("put f")), 150)
        drawings = tuple(Drawing(book.scheme, line) for line in great_lines(151)[18:])
        self.refused(InvalidBook, Book, book.scheme, drawings)
        self.assertEqual(Book(book.scheme, drawings[:-1]), book)

    def test_wrong_arguments(self):
        self.refuses_odd(InvalidScheme, lambda value: Book(value, (Drawing(HEIGHTS, "put ^even"),)),
                         lambda value: isinstance(value, Scheme))
        for value in odd_values():
            fine = isinstance(value, tuple) and len(value) == 1 and isinstance(value[0], Drawing)
            if not fine:
                self.refused(InvalidBook, Book, T, value)
        self.refused(InvalidBook, Book, T, [PUT])
        self.refused(InvalidBook, Book, T, ("put ^two",))
        self.refused(InvalidScheme, Book, None, None)


class Read(Case):

    def test_lines_in_any_order(self):
        self.assertEqual(Book.from_lines(*REDS_LINES[::-1]), REDS)
        self.assertEqual(Book.from_lines(*sorted(REDS_LINES)), REDS)
        self.assertEqual(Book.from_lines(*REDS.lines), REDS)

    def test_values_that_are_no_lines(self):
        lines = list(TWOTHREE.lines)
        for at in (0, 3, len(lines)):
            for value in odd_values():
                if not isinstance(value, str) or value.split(" ")[0] not in KINDS or " " not in value:
                    if value not in ("bare t", "tops t", "form even t t1 t1"):
                        self.refused(ParseError, Book.from_lines, *lines[:at], value, *lines[at:], number=at)

    def test_lines_of_the_scheme(self):
        lines = ["bare t", "put ^two", "tops t", "cut two(x .) to .", "form two t t1 t1"]
        self.assertEqual(len(Book.from_lines(*lines)), 2)
        for line in ("bare t", "bare s", "tops t", "form two t t1 t1", "form two t t2 t2", "bare T", "cut", "putt ^two",
                     "put", "mend", "tops", "form x", "", "cutt two(x .) to .", "forms", " put ^two"):
            self.refused(ParseError, Book.from_lines, *lines, line, number=5)
        self.refused(ParseError, Book.from_lines, "nothing", *lines, number=0)

    def test_first_value_that_is_none(self):
        self.refused(ParseError, Book.from_lines, "put nothing", "bare t", "what", "bare t", number=2)
        self.refused(ParseError, Book.from_lines, "put two", None, "what", number=1)

    def test_errors_in_their_order(self):
        # A word of no kind, then a scheme that is none, then a line over it, then a book that is none.
        self.refused(ParseError, Book.from_lines, "put nothing", "bare t", "what", number=2)
        self.refused(InvalidScheme, Book.from_lines, "put nothing", "bare t", "tops t")
        self.refused(InvalidScheme, Book.from_lines, "put nothing", "bare t", "tops s", "form two t t1 t1")
        self.refused(InvalidScheme, Book.from_lines)
        self.refused(ParseError, Book.from_lines, "put two", "put nothing", "cut", *T.lines, number=2)
        self.refused(ParseError, Book.from_lines, "put two", *T.lines, "put nothing", "put ", number=5)
        self.refused(ParseError, Book.from_lines, "put two", "put two", *T.lines, "cut two(x .) to three", number=6)
        self.refused(InvalidBook, Book.from_lines, "put two", "put two", *T.lines)
        self.refused(InvalidBook, Book.from_lines, *T.lines)

    def test_kinds_and_blanks(self):
        for line in ("put ", "cut two", "mend  two", "top t", "join t t", "put ^two\n"):
            self.refused(ParseError, Book.from_lines, *T.lines, line, number=4)
            self.refused(InvalidScheme, Book.from_lines, line)


class LookedUp(Case):

    def test_at(self):
        for book in (TWOTHREE, GLUE, REDS):
            for place in book.places:
                told = tuple(drawing for drawing in book if Plan(drawing).place == place)
                self.assertEqual(book.at(place), told)
                self.assertNotEqual(told, ())

    def test_at_other_values(self):
        for value in [*odd_values(), ("cut", "two", True), ("cut", "two", False), ("cut", "two", 2),
                      ("cut", "two", "0"),
                      ("mend", "two", False, -1, "t"), ("mend", "two", 0, True, "two(. .)"),
                      ("mend", "two", 0, -1, ["t"]),
                      ("mend", "two", 0, -2, "t"), ("join", "t", "t", 0), ("join", "t", "t", False), ["put"],
                      ("put", "put"), ("cut", "two", 0, 1), ("top", "two(. .)"), ("cut", "two", TOO_LONG)]:
            fine = isinstance(value, tuple) and repr(value) in ("('put',)", "('cut', 'two', 0)",
                                                                "('mend', 'two', 0, -1, 't')")
            self.assertEqual(len(TWOTHREE.at(value)) > 0, fine, value)
            self.assertIs(type(TWOTHREE.at(value)), tuple)

    def test_by_line(self):
        for drawing in REDS:
            self.assertEqual(REDS[drawing.line], drawing)
        self.refuses_odd(UnknownName, TWOTHREE.__getitem__, lambda value: value == "put ^two", keeps="name")
        self.refused(UnknownName, TWOTHREE.__getitem__, "put two", name="put two")
        self.refused(UnknownName, TWOTHREE.__getitem__, 0, name=0)

    def test_in(self):
        for drawing in TWOTHREE:
            self.assertIn(drawing, TWOTHREE)
            self.assertIn(drawing.line, TWOTHREE)
        for value in odd_values():
            fine = isinstance(value, Drawing) or value == "put ^two"
            self.assertIs(value in TWOTHREE, fine)
        self.assertNotIn(Drawing(T.without("three"), "put ^two"), TWOTHREE)
        self.assertNotIn(Drawing(T, "put two"), TWOTHREE)

    def test_equal(self):
        self.assertTrue(TWOTHREE == Book.from_lines(*TWOTHREE.lines))
        self.assertFalse(TWOTHREE != Book.from_lines(*TWOTHREE.lines))
        for other in (GLUE, REDS, TWOTHREE.without("cut two(x .) to ."), TWOTHREE.with_drawing("put two"), T,
                      TWOTHREE.lines, *odd_values()):
            self.assertIs(TWOTHREE == other, False)
            self.assertIs(TWOTHREE != other, True)

    def test_iterated(self):
        self.assertEqual([drawing.line for drawing in GLUE], list(GLUE.lines[4:]))
        self.assertEqual(list(GLUE), list(GLUE))


class Changed(Case):

    def test_with_drawing(self):
        less = TWOTHREE.without("cut two(x .) to .")
        self.assertEqual(len(less), 20)
        self.assertEqual(less.with_drawing("cut two(x .) to ."), TWOTHREE)
        self.assertEqual(GLUE.without("join t t +0 to ^two(. .)"), TWOTHREE)

    def test_with_another_put(self):
        other = TWOTHREE.with_drawing("put two")
        self.assertEqual((other.put_drawing.line, len(other)), ("put two", 21))
        self.assertEqual(other.with_drawing("put ^two"), TWOTHREE)

    def test_line_that_is_there(self):
        for drawing in TWOTHREE:
            self.refused(InvalidBook, TWOTHREE.with_drawing, drawing.line)

    def test_drawing_that_is_not_apart(self):
        self.refused(InvalidBook, TWOTHREE.with_drawing,
                     "mend two(!-1:t two(three(. . .) .)) to three(. three(. . .) .)")
        self.refused(InvalidBook, REDS.with_drawing, "mend bb(!+0:red(. .) bb(. .)) to rb(red(. .) bb(. .))")

    def test_wrong_lines(self):
        less = Book(T, (Drawing(T, "put two"),))
        for value in odd_values():
            if value == "put two":
                self.refused(InvalidBook, less.with_drawing, value)
            elif value == "put ^two":
                self.assertEqual(less.with_drawing(value).put_drawing, PUT)
            else:
                self.refused(InvalidDrawing, less.with_drawing, value)
        self.refused(InvalidDrawing, TWOTHREE.with_drawing, PUT)

    def test_without(self):
        for drawing in TWOTHREE.drawings[1:]:
            less = TWOTHREE.without(drawing.line)
            self.assertEqual((len(less), drawing in less), (20, False))
        self.refused(InvalidBook, TWOTHREE.without, "put ^two")
        for value in odd_values():
            if value != "put ^two":
                self.refused(UnknownName, TWOTHREE.without, value, name=value)
        self.refused(UnknownName, TWOTHREE.without, PUT)
        self.assertEqual(len(TWOTHREE), 21)


class Mirrored(Case):

    def test_drawings(self):
        for book in (TWOTHREE, GLUE, REDS, balanced_book(),
                     *[chance.book_of(number, tries=50) for number in range(30)]):
            mirrored = mirrored_book(book)
            scheme = mirrored_scheme(book.scheme)
            self.assertEqual(mirrored.scheme, scheme)
            self.assertEqual({drawing.line for drawing in mirrored},
                             {drawing.mirrored(scheme).line for drawing in book})
            self.assertEqual(mirrored_book(mirrored), book)

    def test_no_book(self):
        self.refuses_odd(InvalidBook, mirrored_book, lambda value: isinstance(value, Book))
        self.refused(InvalidBook, mirrored_book, T)


class Renamed(Case):

    def test_other_names(self):
        book = Book.from_lines("bare x", "tops x", "form x x x1 x1", "form y x x1 x1 x1", "form z s x1 x1", "put ^x",
                               "cut y(x x(. .) .) to x(x(. .) .)", "mend y(!-1:x x(. .) .) to x(y(. . .) .)",
                               "mend x(!+1:x(. .) .) to y(. . .)", "top z(. .) to x(. .)",
                               "join x z(. .) +1 to ^y(. . .)")
        renamed = renamed_book(book, {"x": "s", "s": "x"}, {"x": "y", "y": "z", "z": "x"})
        self.assertEqual(renamed.lines, (
            "bare s", "tops s", "form x x s1 s1", "form y s s1 s1", "form z s s1 s1 s1", "put ^y",
            "cut z(x y(. .) .) to y(y(. .) .)", "mend y(!+1:y(. .) .) to z(. . .)",
            "mend z(!-1:s y(. .) .) to y(z(. . .) .)",
            "top x(. .) to y(. .)", "join s x(. .) +1 to ^z(. . .)"))

    def test_there_and_back(self):
        for number in range(30):
            book = chance.book_of(number, tries=50)
            sorts = {sort: "pqrs"[at] for at, sort in enumerate(book.scheme.sorts)}
            forms = {name: f"f{'abcdef'[at]}" for at, name in enumerate(book.scheme.names)}
            renamed = renamed_book(book, sorts, forms)
            self.assertEqual(renamed.scheme, renamed_scheme(book.scheme, sorts, forms))
            self.assertEqual(len(renamed), len(book))
            back = [{names[key]: key for key in names} for names in (sorts, forms)]
            self.assertEqual(renamed_book(renamed, *back), book)

    def test_wrong_arguments(self):
        names = {"two": "two", "three": "three"}
        self.refuses_odd(InvalidBook, lambda value: renamed_book(value, {"t": "t"}, {"two": "two", "three": "three"}),
                         lambda value: isinstance(value, Book))
        for value in odd_values():
            if value == {"t": "t"}:
                self.assertEqual(renamed_book(TWOTHREE, value, names), TWOTHREE)
            else:
                self.refused(InvalidOperation, renamed_book, TWOTHREE, value, names)
            self.refused(InvalidOperation, renamed_book, TWOTHREE, {"t": "s"}, value)
        self.refused(InvalidOperation, renamed_book, TWOTHREE, {"t": "s"}, {"two": "two", "three": "two"})
        self.refused(InvalidBook, renamed_book, None, None, None)


class Choice(Case):

    def test_example(self):
        place = ("mend", "two", 0, -1, "t")
        self.assertEqual(choice(TWOTHREE, place, {(1,): "two"}).result, ("t", -1))
        self.assertEqual(choice(TWOTHREE, place, {(1,): "three"}).result, ("t", 0))
        self.assertIsNone(choice(TWOTHREE, place, {}))
        self.assertIsNone(choice(TWOTHREE, place, {(1,): None}))
        self.assertIsNone(choice(TWOTHREE, place, {(1,): "four"}))

    def test_other_paths_have_no_effect(self):
        place = ("mend", "two", 0, -1, "t")
        opened = {(1,): "two", (): "three", (0,): None, (1, 0): "three", (7, -3): "nothing", (2 ** 100,): None}
        self.assertEqual(choice(TWOTHREE, place, opened), choice(TWOTHREE, place, {(1,): "two"}))
        self.assertEqual(choice(TWOTHREE, ("put",), opened), PUT)
        self.assertEqual(choice(TWOTHREE, ("put",), {}), PUT)
        self.assertEqual(choice(REDS, ("top", "red(. .)"), {}).line, "top red(. .) to bb(. .)")

    def test_deep_paths(self):
        book = TWOTHREE.with_drawing("join t two(. two(. .)) +0 to two(. two(. two(. .)))")
        place = ("join", "t", "t", 0)
        self.assertEqual(choice(book, place, {(1,): "two", (1, 1): "two"}).place, place)
        for opened in ({(1,): "two"}, {(1, 1): "two"}, {(1,): "two", (1, 1): None}, {(1,): "two", (1, 1): "three"}):
            self.assertIsNone(choice(book, place, opened))

    def test_any_place(self):
        for value in odd_values():
            found = choice(TWOTHREE, value, {(1,): "two"})
            self.assertEqual(found is not None, repr(value) in (
                "('put',)", "('cut', 'two', 0)", "('mend', 'two', 0, -1, 't')"), value)

    def test_beside_the_plain_way(self):
        for number in range(30):
            book = chance.book_of(number, tries=80)
            names = [None, *book.scheme.names]
            for place in book.places:
                paths = sorted({path for drawing in book.at(place) for path in drawing.opened})
                for told in itertools.islice(itertools.product(names, repeat=len(paths)), 300):
                    opened = dict(zip(paths, told))
                    fitting = [drawing for drawing in book if drawing.place == place
                               and all(opened[path] == name for path, name in drawing.opened.items())]
                    self.assertEqual([choice(book, place, opened)], fitting or [None])

    def test_wrong_arguments(self):
        self.refuses_odd(InvalidBook, lambda value: choice(value, ("put",), {}), lambda value: isinstance(value, Book))
        for value in odd_values():
            fine = value == {} or repr(value) in ("{(1,): 'two'}", "{(0,): None}")
            if isinstance(value, dict) and fine:
                self.assertEqual(choice(TWOTHREE, ("put",), value), PUT)
            else:
                self.refused(InvalidOperation, choice, TWOTHREE, ("put",), value)
        for opened in ({(1,): "Two"}, {(1,): "abcdefghi"}, {1: "two"}, {"1": "two"}, {(1, "0"): "two"}, {(1.5,): "two"},
                       {(1,): 0}, {((1,),): "two"}, {(1,): ("two",)}, {(1,): ["two"]}, {(None,): None}, {(1,): False}):
            self.refused(InvalidOperation, choice, TWOTHREE, ("put",), opened)
        self.refused(InvalidBook, choice, None, None, None)
        self.refused(InvalidOperation, choice, TWOTHREE, None, None)
