"""Values that several tests use: schemes, odd arguments, and how an error is caught."""

from mendbooks import errors
from mendbooks.base.forms import Form, Scheme
from mendbooks.base.pictures import Picture
from mendbooks.books.books import Book
from mendbooks.books.drawings import Drawing
from mendbooks.decide.tables import Table
from mendbooks.ranks.ranks import Ranks
from mendbooks.text.shell import Shell
from mendbooks.trees.shapes import Shape
from mendbooks.use.bench import Bench
from mendbooks.use.index import Index

LONGEST = 10 ** 60 - 1
TOO_LONG = 10 ** 60

HEIGHT_LINES = ("bare t", "tops t", "form even t t1 t1", "form left t t1 t2", "form right t t2 t1")
HEIGHTS = Scheme.from_lines(*HEIGHT_LINES)
TWOTHREE = Scheme.from_lines("bare t", "tops t", "form two t t1 t1", "form three t t1 t1 t1")
REDBLACK = Scheme.from_lines("bare b", "tops b r", "form black b c1 c1", "form mixed c r0 b0", "form red r b0 b0",
                             "form wide b b1 r1 c2 b1")


def nested(depth, innermost, wrap):
    """The innermost value, wrapped so many times."""
    for _ in range(depth):
        innermost = wrap(innermost)
    return innermost


def odd_values():
    """Values of all kinds that point 0.4 names, made anew for each call."""
    return [
        *odd_numbers(), *odd_texts(), *odd_sequences(), *odd_objects(),
        None, True, False, {}, {"t": "t"}, {1: 2}, {("t", 1): ["t"]}, {None: {}}, {(1,): "two"}, {(0,): None},
        {(True,): "two"}, {(1,): ""}, {(1,): True}, {((1,),): "two"}, {(10 ** 60,): None},
        nested(8, "t", lambda value: {"t": value}),
    ]


def odd_numbers():
    return [0, 1, 2, 3, 4, -1, -2, 7, 256, LONGEST, -LONGEST, TOO_LONG, -TOO_LONG, 10 ** 99, 1 - 10 ** 100]


def odd_texts():
    return ["", " ", ".", "..", "(", ")", "()", "t", "T", "b1", "two", "a b", "t\n", "\n", "x", "^two(. .)",
            "two(. .)", "two(x .)", "two(!+1:t .)", "abcdefgh", "abcdefghi", "0", "1", "bare t", "tops t",
            "form even t t1 t1", "put ^two", "put two", "put", "cut", "left", "put ", "mend ", "even", "left",
            "z" * 4000, "(" * 4000, ")" * 4000, "a(. " * 1000,
            "a(" * 2000, "a" + "(" * 1999 + ")" * 2000, " " * 4000, "{}", "%s"]


def odd_sequences():
    return [
        (), ("t",), ("t", 1), ("t", True), ("a", "b"), ("b", "a"), ("a", "a"), (0,), (True,), (False,), (0, 0),
        (("t", 1), ("t", 1)), (("t", 1), ("t", True)), (("t", -1), ("t", -1)), [("t", 1), ("t", 1)], (None,),
        [], ["t"], ["a", "b"], [0], [[]], ([],), ({},), (("t", []),), (["t", 1], ["t", 1]), ("t", ["t"]),
        ("put",), ("put", 0), ("cut", 0), ("put", True), ("put", -1), ("cut", "two", 0), ("cut", "two", 0, 1),
        ("mend", "two", 0, -1, "t"), ("two", 0, -1, "t", 2), ("two", False, -1, "t", 2), ("", 0, 0, "t", 0),
        ("join", "t", "t", 0, 0), ("top", "t"), (("two", (None, None)),), (("two", [None, None]),),
        (["two", (None, None)],), (("two", (None, 0)),), (("three", (None, None, None)),), (("two", (None, None), 0),),
        ("good", ()), ("good", "put"), ("most", "put", 3), ("most", "put", True), ("done", (), ("put", 0)),
        ("bad", (), ("put", 0)), ("bad", (), ()), ("good", (), ()), ("good", (("", 0, 0, "t", 0),)),
        nested(8, "t", lambda value: (value,)), nested(8, 0, lambda value: [value]),
        nested(8, (), lambda value: (value, value)),
    ]


def odd_objects():
    drawing = Drawing(TWOTHREE, "put ^two")
    book = Book(TWOTHREE, (drawing,))
    shape = Shape(TWOTHREE, (("two", (None, None)),))
    return [
        drawing, (drawing,), [drawing], book, (book,), shape, (shape,), [shape, shape], Ranks(TWOTHREE),
        Table(book, "put"), Index(book, (3,)), Bench(book), (Bench(book),), Shell("\n".join(book.lines)),
        Form("two", "t", (("t", 1), ("t", 1))), (Form("even", "t", (("t", 1), ("t", 1))),), HEIGHTS, (HEIGHTS,),
        Picture("."), Picture("two(. .)"), (Picture("."),), (Picture("."), Picture(".")), [Picture("."), Picture(".")],
        errors.ParseError(3), errors.UnknownName("t"), errors.InvalidName("t"),
    ]


def caught(call, *arguments):
    """The error that a call raises; None if it raises none."""
    try:
        call(*arguments)
    except Exception as error:
        return error
    return None


def same(one, other):
    """Whether two values are equal, and True and False stand in the same places of both."""
    if isinstance(one, bool) or isinstance(other, bool):
        return one is other
    if isinstance(one, (tuple, list)) and isinstance(other, (tuple, list)):
        return (type(one) is type(other) and len(one) == len(other)
                and all(same(a, b) for a, b in zip(one, other)))
    return one == other
