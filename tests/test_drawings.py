"""Points 0.10 to 0.14 and 4.1, and the fourth stage: drawings."""

import itertools

from mendbooks.base.forms import Scheme, mirrored_scheme
from mendbooks.base.pictures import Picture, is_sound_picture, spot_over
from mendbooks.books import drawings
from mendbooks.books.drawings import Drawing, clash
from mendbooks.errors import InvalidDrawing, InvalidOperation, InvalidScheme
from tests import chance
from tests.books import GLUE, HEIGHTS, REDS, TWOTHREE, balanced_book
from tests.cases import Case
from tests.naive import Plan
from tests.samples import odd_values

T = TWOTHREE.scheme
R = REDS.scheme
# Steps of all sizes, so that great differences can be made even.
STEPS = Scheme.from_lines(
    "bare t", "tops t", "form flat t t0 t0", "form high t t3 t3", "form low t t3 t0", "form lowb t t3 t2",
    "form slope t t0 t3", "form tilt t t0 t1", "form odd s t2 t2", "form both t s0 t1")
FLATS = "flat(flat(flat(. .) flat(. .)) flat(flat(. .) flat(. .)))"
HIGHS = "high(high(high(. .) high(. .)) high(high(. .) high(. .)))"
CHAIN = "low(low(low(. .) .) .)"


class LineCase(Case):

    def reads(self, scheme, *lines):
        for line in lines:
            drawing = Drawing(scheme, line)
            self.assertEqual((drawing.line, str(drawing)), (line, line))
            self.assertEqual(drawing.scheme, scheme)

    def refuses(self, scheme, *lines):
        for line in lines:
            with self.assertRaises(InvalidDrawing, msg=line):
                Drawing(scheme, line)


class Lines(LineCase):

    def test_constants(self):
        self.assertEqual((drawings.MAX_DIFFERENCE, drawings.KINDS), (12, ("put", "cut", "mend", "top", "join")))

    def test_books_of_the_samples(self):
        for book in (TWOTHREE, GLUE, REDS, balanced_book()):
            self.reads(book.scheme, *[drawing.line for drawing in book])

    def test_every_line_with_one_sign_changed(self):
        lines = ["put ^two", "cut three(. x .) to two(. .)", "mend two(!-1:t three(. . .)) to two(two(. .) two(. .))",
                 "mend three(. . !+1:two(. .)) to ^two(two(. .) two(. .))", "join t two(. .) +1 to three(. . .)"]
        taken = 0
        for line in lines:
            for at in range(len(line) + 1):
                for sign in ("", ".", "(", ")", " ", "t", "x", "!", "^", "1", "+", "-", ":", "T", "\n", "\t", ". "):
                    for other in (line[:at] + sign + line[at:], line[:at] + sign + line[at + 1:]):
                        if other != line and chance.is_line(T, other):
                            taken += 1
                            self.assertRegex(other, r"^(put two|cut three.*|mend three.* \^?two\(.*|join t two.*)$")
                            self.assertEqual(Drawing(T, other).line, other)
        self.assertLess(taken, 20)

    def test_words(self):
        self.refuses(T, "", " ", "put", "put ", "put two three", "put  two", " put two", "put two ", "Put two",
                     "cut two(x .)", "cut two(x .) .", "cut two(x .) to", "cut two(x .) to . .", "cut two(x .)  to .",
                     "cut two(x .) on .", "cut two(x .) to  .", "top two(. .) to two(. .)", "mend two(x .) to .",
                     "join t t to two(. .)", "join t t +0 two(. .)", "join t +0 t to two(. .)",
                     "join t t +0 to two(. .) .",
                     "glue t t +0 to two(. .)", "put\ntwo", "cut two(x .)\nto .", "form two t t1 t1", "bare t")

    def test_values_that_are_no_lines(self):
        self.refuses_odd(InvalidDrawing, lambda value: Drawing(T, value),
                         lambda value: value in ("put two", "put ^two"))
        for line in ("put two", "put ^two"):
            self.refused(InvalidDrawing, Drawing, T, Drawing(T, line))
            self.refused(InvalidDrawing, Drawing, T, (line,))
            self.refused(InvalidDrawing, Drawing, T, line.split(" "))

    def test_no_scheme(self):
        self.refuses_odd(InvalidScheme, lambda value: Drawing(value, "put ^even"),
                         lambda value: isinstance(value, Scheme))
        self.refused(InvalidDrawing, Drawing, HEIGHTS, "put ^two")
        self.refused(InvalidScheme, Drawing, T.lines, None)
        self.refused(InvalidScheme, Drawing, None, None)

    def test_names_of_other_schemes(self):
        self.refuses(T, "put ^even", "cut even(x .) to .", "cut two(x .) to even(. .)",
                     "mend two(!+1:s .) to three(. . .)",
                     "mend two(!+1:even(. .) .) to three(. . .)", "join t s +0 to two(. .)", "put ^two(. .)")


class Puts(LineCase):

    def test_put(self):
        put = Drawing(T, "put ^two")
        self.assertEqual((put.kind, put.place, put.first, put.second), ("put", ("put",), ".", "two(. .)"))
        self.assertEqual((put.result, put.is_odd, put.hand, put.opened), (("t", 1), True, "two(. .)", {}))
        self.assertEqual(len(put), 1)

    def test_without_marks(self):
        put = Drawing(T, "put two")
        self.assertEqual((put.second, put.hand, put.is_odd, put.result), ("two(. .)", "t", True, ("t", 1)))

    def test_not_odd(self):
        put = Drawing(STEPS, "put flat")
        self.assertEqual((put.result, put.is_odd, put.hand), (("t", 0), False, "t"))
        self.refuses(STEPS, "put ^flat")

    def test_another_sort(self):
        put = Drawing(STEPS, "put ^odd")
        self.assertEqual((put.result, put.is_odd, put.hand), (("s", 2), True, "odd(. .)"))
        self.reads(R, "put ^red", "put red", "put bb")
        self.assertIs(Drawing(R, "put red").is_odd, True)

    def test_children(self):
        self.refuses(T, "put three", "put ^three")
        self.refuses(STEPS, "put low", "put ^lowb", "put both", "put ^tilt")
        self.refuses(R, "put br", "put rr", "put lred")
        self.refuses(HEIGHTS, "put ^left", "put right")

    def test_texts(self):
        self.refuses(T, "put two(. .)", "put ^^two", "put t", "put .", "put ^", "put ^.", "put two(^. .)")


class Cuts(LineCase):

    def test_cut(self):
        cut = Drawing(T, "cut three(. x two(. .)) to two(. two(. .))")
        self.assertEqual((cut.kind, cut.place, cut.first), ("cut", ("cut", "three", 1), "three(. x two(. .))"))
        self.assertEqual((cut.second, cut.result, cut.is_odd), ("two(. two(. .))", ("t", 0), False))
        self.assertEqual((cut.hand, cut.opened, len(cut)), ("t", {(2,): "two"}, 2))

    def test_second_picture_that_is_a_hole(self):
        cut = Drawing(T, "cut two(. x) to .")
        self.assertEqual((cut.second, cut.result, cut.is_odd, cut.hand, len(cut)), (".", ("t", -1), True, "t", 0))
        self.assertEqual(Drawing(STEPS, "cut flat(x .) to .").is_odd, False)
        self.refuses(T, "cut two(. x) to ^.", "cut three(. x .) to .")

    def test_hands(self):
        scheme = Scheme.from_lines("bare t", "tops t", "form two t t1 t1", "form thin s t1 t1", "form three t t1 t1 t1")
        cut = Drawing(scheme, "cut three(x . .) to ^thin(. .)")
        self.assertEqual((cut.result, cut.is_odd, cut.hand), (("s", 0), True, "thin(. .)"))
        self.assertEqual(Drawing(scheme, "cut three(x . .) to thin(. .)").hand, "s")
        self.refuses(scheme, "cut three(x . .) to ^two(. .)")

    def test_sort_of_what_is_cut(self):
        self.refuses(R, "cut br(. x) to .", "cut rr(x .) to .", "cut lred(x .) to .")
        self.reads(R, "cut br(x .) to .", "cut lred(. x) to .", "cut red(x .) to .")

    def test_one_x_at_the_top(self):
        self.refuses(T, "cut two(. .) to two(. .)", "cut two(x x) to .", "cut three(x x .) to .", "cut x to .",
                     "cut two(two(x .) .) to two(. .)", "cut two(x two(x .)) to .", "cut . to .", "cut two(X .) to .",
                     "cut two(^x .) to .", "cut two(!x .) to .", "cut two(x .) to x")

    def test_form_called_x(self):
        scheme = Scheme.from_lines("bare x", "tops x", "form x x x1 x1", "form y x x1 x1 x1")
        cut = Drawing(scheme, "cut y(x x(. .) .) to x(x(. .) .)")
        self.assertEqual((cut.place, cut.opened), (("cut", "y", 0), {(1,): "x"}))
        self.refuses(scheme, "cut y(x(. .) . .) to x(x(. .) .)", "cut y(x(. .) x(. .) .) to x(x(. .) .)")

    def test_holes(self):
        self.refuses(T, "cut three(. x .) to three(. . .)", "cut three(. x .) to two(. two(. .))",
                     "cut three(two(. .) x .) to two(. .)", "cut two(x .) to two(. .)")

    def test_levels(self):
        self.reads(HEIGHTS, "cut left(. x) to .", "cut left(x .) to .", "cut even(. x) to .",
                   "cut left(left(. .) x) to left(. .)")
        self.refuses(HEIGHTS, "cut left(even(. .) x) to left(. .)", "cut left(left(. .) x) to even(. .)")

    def test_sound_first_pictures(self):
        self.refuses(T, "cut two(x three(. .)) to two(. .)", "cut two(x . .) to two(. .)", "cut even(x .) to .")
        self.refuses(R, "cut br(x bb(. .)) to bb(. .)")
        self.reads(R, "cut br(x red(. .)) to red(. .)", "cut br(x .) to .")


class Mends(LineCase):

    def test_hand_that_is_a_sort(self):
        mend = Drawing(T, "mend three(. !-1:t two(. .)) to two(. three(. . .))")
        self.assertEqual((mend.kind, mend.place), ("mend", ("mend", "three", 1, -1, "t")))
        self.assertEqual((mend.first, mend.second), ("three(. !-1:t two(. .))", "two(. three(. . .))"))
        self.assertEqual((mend.result, mend.is_odd, mend.hand, mend.opened), (("t", 0), False, "t", {(2,): "two"}))
        self.assertEqual(len(mend), 2)

    def test_hand_that_is_a_picture(self):
        mend = Drawing(T, "mend two(two(. two(. .)) !+1:two(. .)) to three(two(. two(. .)) . .)")
        self.assertEqual((mend.place, mend.first), (("mend", "two", 1, 1, "two(. .)"),
                                                    "two(two(. two(. .)) !+1:two(. .))"))
        self.assertEqual(mend.opened, {(0,): "two", (0, 1): "two"})
        self.assertEqual(list(mend.opened), [(0,), (0, 1)])
        self.assertEqual((mend.hand, mend.result, mend.is_odd, len(mend)), ("t", ("t", 0), False, 3))

    def test_odd_and_marked(self):
        line = "mend three(!+1:two(. .) . .) to {}"
        second = "two(two(. .) two(. .))"
        self.assertEqual(Drawing(T, line.format(second)).hand, "t")
        for marks, hand in (("^two(two(. .) two(. .))", "two(. .)"), ("^two(^two(. .) two(. .))", "two(two(. .) .)"),
                            ("^two(two(. .) ^two(. .))", "two(. two(. .))"), ("^two(^two(. .) ^two(. .))", second)):
            mend = Drawing(T, line.format(marks))
            self.assertEqual((mend.hand, mend.second, mend.is_odd, mend.result), (hand, second, True, ("t", 1)))
        self.refuses(T, line.format("two(^two(. .) two(. .))"), line.format("two(two(. .) ^two(. .))"),
                     line.format("two(^two(. .) ^two(. .))"), line.format("^two(^^two(. .) two(. .))"),
                     line.format("^two(two(^. .) two(. .))"))

    def test_marks_below_a_name_without_one(self):
        line = "mend flat({} !+12:t) to {}"
        for text in ("^low(^high(^high(^high(. .) ^high(. .)) ^high(^high(. .) ^high(. .))) .)",
                     "^low(^high(high(high(. .) high(. .)) ^high(high(. .) high(. .))) .)"):
            self.reads(STEPS, line.format(FLATS, text))
        self.refuses(STEPS, line.format(FLATS, "^low(^high(high(^high(. .) high(. .)) high(high(. .) high(. .))) .)"),
                     line.format(FLATS, "^low(high(^high(high(. .) high(. .)) high(high(. .) high(. .))) .)"))

    def test_marks_where_nothing_is_odd(self):
        self.reads(T, "mend two(!+1:two(. .) .) to three(. . .)")
        self.refuses(T, "mend two(!+1:two(. .) .) to ^three(. . .)", "cut three(x . .) to ^two(. .)")

    def test_another_sort_with_the_difference_0(self):
        mend = Drawing(R, "mend bb(!+0:red(. .) .) to rb(red(. .) .)")
        self.assertEqual((mend.place, mend.is_odd, mend.result), (("mend", "bb", 0, 0, "red(. .)"), False, ("b", 0)))
        self.assertEqual(Drawing(R, "mend bb(!+0:r .) to rb(. .)").place, ("mend", "bb", 0, 0, "r"))
        self.assertIs(Drawing(R, "mend red(!+0:r .) to lred(. .)").is_odd, True)

    def test_the_told_sort_with_the_difference_0(self):
        self.refuses(R, "mend bb(!+0:b .) to bb(. .)", "mend rb(!+0:red(. .) .) to rb(red(. .) .)")
        self.refuses(T, "mend two(!+0:t .) to two(. .)", "mend two(!+0:two(. .) .) to two(two(. .) .)")

    def test_differences(self):
        line = "mend flat({} !{}:t) to low({} .)"
        self.assertEqual(Drawing(STEPS, line.format(FLATS, "+12", HIGHS)).result, ("t", 12))
        far = "mend flat(!{}:t {}) to low({} .)"
        self.assertEqual(Drawing(STEPS, far.format("-12", CHAIN, "low(low(low(. .) .) .)")).place[3], -12)
        for number in ("12", "+012", "+12.0", "--12", "+-12", "+1_2", " +12", "12+", "+0xc", "+\n12", "", "+"):
            self.refuses(STEPS, line.format(FLATS, number, HIGHS))

    def test_differences_beyond_the_limit(self):
        # The second pictures would hold.
        up, down = f"lowb({HIGHS} .)", f"low({CHAIN} .)"
        self.assertEqual(spot_over(STEPS, Picture(up), (("t", 0),) * 8 + (("t", 10),)), ("t", 12))
        self.refuses(STEPS, f"mend slope({FLATS} !+13:t) to {up}")
        levels = tuple(("t", level) for level in (-13, -10, -7, -4, -1))
        self.assertEqual(spot_over(STEPS, Picture(down), levels), ("t", -1))
        self.refuses(STEPS, f"mend tilt(!-13:t {CHAIN}) to {down}")

    def test_signs_and_leading_zeros(self):
        line = "mend bb(!{}:red(. .) .) to rb(red(. .) .)"
        self.reads(R, line.format("+0"))
        self.refuses(R, *[line.format(number) for number in ("-0", "0", "+00", "00", "", "+", "-")])
        line = "mend two(!{}:two(. .) .) to three(. . .)"
        self.reads(T, line.format("+1"))
        self.refuses(T, *[line.format(number) for number in ("1", "+01", "-1", "+2", "++1", "+1 ")])

    def test_one_odd_child_at_the_top(self):
        self.refuses(T, "mend two(. .) to two(. .)", "mend two(!+1:t !+1:t) to ^two(. .)", "mend !+1:t to .",
                     "mend two(two(!+1:t .) .) to three(. . .)", "mend two(!+1:two(!+1:t .) .) to three(. . .)",
                     "mend two(!+1:. .) to .", "mend two(!+1 .) to .", "mend two(+1:t .) to .", "mend two(!t .) to .",
                     "mend two(!+1: .) to .", "mend two(!+1:x .) to .", "mend . to .")

    def test_four_and_five_levels(self):
        left, right = "two(two(. .) .)", "two(. two(. two(. .)))"
        three = f"two({left} .)"
        self.assertEqual((Picture(three).levels, Picture(right).levels), (3, 3))
        self.reads(T, f"mend two(!+1:{three} .) to three({left} . .)",
                   f"mend two(!+1:two(. .) {right}) to three(. . {right})")
        self.assertEqual(Drawing(T, f"mend two(!+1:{three} .) to three({left} . .)").place[4], three)
        # The first pictures are too deep, the one with its hand, the other one beside it.
        self.refuses(T, f"mend two(!+1:two({three} .) .) to three({three} . .)",
                     f"mend two(!+1:two(. .) two(. {right})) to three(. . two(. {right}))")

    def test_second_pictures_of_four_and_five_levels(self):
        line = "mend flat(!{}:t {}) to {}"
        self.reads(STEPS, line.format("-9", "low(low(. .) .)", "low(low(low(. .) .) .)"),
                   line.format("-12", CHAIN, f"low({CHAIN} .)"))
        self.refuses(STEPS, f"mend flat(!-12:t low({CHAIN} .)) to low(low({CHAIN} .) .)")

    def test_steps_of_hands(self):
        mend = Drawing(R, "mend rb(!+0:lred(red(. .) .) .) to rr(red(. .) red(. .))")
        self.assertEqual((mend.opened, mend.place[4], mend.result), ({}, "lred(red(. .) .)", ("b", 0)))
        self.refuses(R, "mend rb(!+1:lred(red(. .) .) .) to rr(red(. .) red(. .))",
                     "mend rb(!+0:lred(red(. .) .) .) to rr(red(. .) bb(. .))",
                     "mend rb(!+0:lred(bb(. .) .) .) to rr(red(. .) red(. .))")

    def test_what_is_opened(self):
        mend = Drawing(R, "mend rr(!+0:lred(red(. .) .) red(. .)) to ^red(rb(red(. .) .) bb(. .))")
        self.assertEqual((mend.opened, mend.hand, mend.second),
                         ({(1,): "red"}, "red(. .)", "red(rb(red(. .) .) bb(. .))"))


class Tops(LineCase):

    def test_top(self):
        top = Drawing(R, "top red(. .) to bb(. .)")
        self.assertEqual((top.kind, top.place, top.first, top.second),
                         ("top", ("top", "red(. .)"), "red(. .)", "bb(. .)"))
        self.assertEqual((top.result, top.is_odd, top.hand, top.opened, len(top)), (("b", 1), False, "b", {}, 1))
        deep = Drawing(R, "top lred(red(. .) .) to rb(red(. .) .)")
        self.assertEqual((deep.place, deep.opened, deep.result), (("top", "lred(red(. .) .)"), {}, ("b", 1)))

    def test_sorts(self):
        self.refuses(R, "top bb(. .) to bb(. .)", "top red(. .) to red(. .)", "top red(. .) to ^bb(. .)",
                     "top lred(. .) to red(. .)", "top r to b", "top . to .", "top red(. .) to .",
                     "top red(. .) to br(. .)",
                     "top red(x .) to .", "top red(!+0:r .) to bb(. .)", "top ^red(. .) to bb(. .)")


class Joins(LineCase):

    def test_join(self):
        join = Drawing(T, "join t two(. .) +0 to ^two(. ^two(. .))")
        self.assertEqual((join.kind, join.place, join.first), ("join", ("join", "t", "t", 0), None))
        self.assertEqual((join.second, join.result, join.is_odd), ("two(. two(. .))", ("t", 1), False))
        self.assertEqual((join.hand, join.opened, len(join)), ("two(. two(. .))", {(1,): "two"}, 2))

    def test_marks_may_stand(self):
        for second, hand in (("two(. .)", "t"), ("^two(. .)", "two(. .)")):
            self.assertEqual(Drawing(T, f"join t t +0 to {second}").hand, hand)
        self.assertEqual(Drawing(T, "join two(. .) t -1 to ^three(. . .)").hand, "three(. . .)")
        self.refuses(T, "join t two(. .) +0 to two(. ^two(. .))")

    def test_opened_paths_of_both_sides(self):
        line = "join two(. two(. .)) two(two(. .) .) +0 to two(two(. two(. .)) two(two(. .) .))"
        self.assertEqual(Drawing(T, line).opened, {(0,): "two", (0, 1): "two", (1,): "two", (1, 0): "two"})
        self.assertEqual(list(Drawing(T, line).opened), [(0,), (0, 1), (1,), (1, 0)])

    def test_levels(self):
        self.assertEqual(Drawing(T, "join t two(. .) +1 to three(. . .)").result, ("t", 1))
        self.assertEqual(Drawing(T, "join two(. .) t -1 to three(. . .)").result, ("t", 0))
        self.refuses(T, "join t two(. .) -1 to three(. . .)", "join t two(. .) +0 to three(. . .)")
        self.reads(R, "join b red(. .) +0 to br(. red(. .))", "join b b +0 to ^red(. .)", "join r b +0 to rb(. .)")

    def test_differences(self):
        scheme = Scheme.from_lines("bare t", "tops t", "form a t t2 t0", "form b t t0 t2", "form c t t3 t0",
                                   "form d t t0 t3")
        self.assertEqual(Drawing(scheme, "join t t +2 to a(. .)").result, ("t", 2))
        self.assertEqual(Drawing(scheme, "join t t -2 to b(. .)").place, ("join", "t", "t", -2))
        self.refuses(scheme, "join t t +3 to c(. .)", "join t t -3 to d(. .)", "join t t 2 to a(. .)",
                     "join t t +02 to a(. .)", "join t t -0 to a(. .)", "join t t +12 to a(. .)")

    def test_sides(self):
        self.refuses(T, "join . t +0 to two(. .)", "join t . +0 to two(. .)", "join s t +0 to two(. .)",
                     "join t x +0 to two(. .)", "join t three(. .) +0 to two(. two(. .))", "join t t +0 to .",
                     "join ^two(. .) t +0 to two(two(. .) .)", "join !+0:t t +0 to two(. .)")
        four = "flat(flat(flat(flat(. .) .) .) .)"
        self.reads(STEPS, f"join t {four} +0 to flat(flat(. .) flat(flat(. .) flat(. .)))")
        self.refuses(STEPS, f"join t {four} +0 to flat(. {four})",
                     f"join t flat({four} .) +0 to flat(flat(. .) flat(flat(. .) flat(. flat(. .))))")


class Chance(Case):

    def test_drawings_by_chance(self):
        for number in range(40):
            book = chance.book_of(number, tries=60)
            for drawing in book:
                plan = Plan(drawing)
                self.assertEqual((drawing.kind, drawing.place, drawing.hand), (plan.kind, plan.place, plan.hand))
                self.assertIs(self.judged(lambda: drawing.is_odd), drawing.kind in ("put", "cut", "mend")
                              and drawing.result != was(drawing))
                self.check_pictures(drawing)

    def check_pictures(self, drawing):
        second = Picture(drawing.second)
        if drawing.kind != "put" and drawing.second != ".":
            self.assertEqual(drawing.second, drawing.line.split(" to ")[1].replace("^", ""))
        self.assertEqual(len(drawing), len(second))
        self.assertEqual(second.called is None or drawing.scheme[second.called].sort_name == drawing.result[0], True)
        if drawing.first not in (None, "."):
            self.assertEqual(drawing.first, drawing.line.split(" ", 1)[1].split(" to ")[0])
        if "(" in drawing.hand:
            self.assertTrue(is_sound_picture(drawing.scheme, Picture(drawing.hand)))
            self.assertFalse(Picture(drawing.hand).names > () and "^" not in drawing.line)

    def test_mirrored(self):
        for number in range(40):
            book = chance.book_of(number, tries=60)
            mirror = mirrored_scheme(book.scheme)
            for drawing in book:
                other = drawing.mirrored(mirror)
                self.assertEqual(other.mirrored(book.scheme), drawing)
                self.assertEqual((other.kind, len(other), other.is_odd), (drawing.kind, len(drawing), drawing.is_odd))
                self.assertEqual(Picture(other.second), Picture(drawing.second).mirrored())


def was(drawing):
    if drawing.kind == "put":
        return drawing.scheme.bare, 0
    return drawing.scheme[drawing.place[1]].sort_name, 0


class Mirrored(Case):

    def test_lines(self):
        for line, other in (
                ("put ^two", "put ^two"), ("cut three(x . .) to two(. .)", "cut three(. . x) to two(. .)"),
                ("mend two(!-1:t three(. . .)) to two(two(. .) two(. .))",
                 "mend two(three(. . .) !-1:t) to two(two(. .) two(. .))"),
                ("mend three(!+1:two(. two(. .)) . .) to ^two(^two(. two(. .)) two(. .))",
                 "mend three(. . !+1:two(two(. .) .)) to ^two(two(. .) ^two(two(. .) .))"),
                ("join t two(. three(. . .)) +0 to two(. two(. three(. . .)))",
                 "join two(three(. . .) .) t +0 to two(two(three(. . .) .) .)"),
                ("join t two(. .) +1 to ^three(. . .)", "join two(. .) t -1 to ^three(. . .)")):
            self.assertEqual(Drawing(T, line).mirrored(T).line, other)
            self.assertEqual(Drawing(T, other).mirrored(T).line, line)

    def test_schemes_that_differ_from_their_mirror(self):
        mirror = mirrored_scheme(R)
        self.assertEqual(Drawing(R, "cut br(x .) to .").mirrored(mirror).line, "cut br(. x) to .")
        self.assertEqual(Drawing(R, "top red(. .) to bb(. .)").mirrored(mirror).scheme, mirror)
        self.refused(InvalidOperation, Drawing(R, "put ^red").mirrored, R)
        self.refused(InvalidOperation, Drawing(R, "put ^red").mirrored, T)

    def test_no_scheme(self):
        put = Drawing(T, "put ^two")
        for value in odd_values():
            if value == T:
                self.assertEqual(put.mirrored(value), put)
            else:
                self.refused(InvalidOperation if isinstance(value, Scheme) else InvalidScheme, put.mirrored, value)


class Equal(Case):

    def test_equal(self):
        put = Drawing(T, "put ^two")
        self.assertTrue(put == Drawing(Scheme.from_lines(*reversed(T.lines)), "put ^two"))
        self.assertFalse(put != Drawing(T, "put ^two"))
        self.assertTrue(put != Drawing(T, "put two"))
        self.assertFalse(put == Drawing(T.without("three"), "put ^two"))
        for value in odd_values():
            self.assertIs(put == value, isinstance(value, Drawing))
            self.assertIs(put != value, not isinstance(value, Drawing))

    def test_not_iterated(self):
        with self.assertRaises(TypeError):
            iter(Drawing(T, "put ^two"))
        with self.assertRaises(TypeError):
            list(Drawing(T, "put ^two"))

    def test_opened_is_not_shared(self):
        mend = Drawing(T, "mend two(!-1:t three(. . .)) to two(two(. .) two(. .))")
        mend.opened.clear()
        mend.opened[(0,)] = "two"
        self.assertEqual(mend.opened, {(1,): "three"})
        self.assertIs(type(mend.place), tuple)
        self.assertIs(type(mend.result), tuple)


class Clash(Case):

    def test_one_place(self):
        lines = ["mend two(!-1:t two(. .)) to three(. . .)", "mend two(!-1:t three(. . .)) to two(two(. .) two(. .))",
                 "mend two(!-1:t two(two(. .) .)) to three(. two(. .) .)",
                 "mend two(!-1:t two(three(. . .) .)) to three(. three(. . .) .)"]
        one, other, lower, apart = [Drawing(T, line) for line in lines]
        for left, right, told in ((one, other, False), (one, lower, True), (one, apart, True), (lower, apart, False),
                                  (other, lower, False), (one, one, True)):
            self.assertIs(self.judged(clash, left, right), told)
            self.assertIs(self.judged(clash, right, left), told)

    def test_other_places(self):
        for one, other in (("cut two(x .) to .", "cut two(. x) to ."),
                           ("cut three(x . .) to two(. .)", "cut two(x .) to ."),
                           ("mend two(!-1:t two(. .)) to three(. . .)", "mend two(two(. .) !-1:t) to three(. . .)"),
                           ("mend two(!+1:two(. .) .) to three(. . .)", "mend two(!-1:t two(. .)) to three(. . .)"),
                           ("mend two(!+1:two(. .) .) to three(. . .)", "cut two(x .) to .")):
            self.assertIs(clash(Drawing(T, one), Drawing(T, other)), False)

    def test_puts_and_tops(self):
        self.assertIs(clash(Drawing(T, "put two"), Drawing(T, "put ^two")), True)
        self.assertIs(clash(Drawing(R, "top red(. .) to bb(. .)"), Drawing(R, "top red(. .) to bb(. .)")), True)
        self.assertIs(clash(Drawing(R, "top red(. .) to bb(. .)"), Drawing(R, "top lred(. .) to rb(. .)")), False)

    def test_joins(self):
        told = ["join t t +0 to two(. .)", "join two(. .) t +0 to two(two(. .) .)",
                "join t two(. .) +0 to two(. two(. .))",
                "join three(. . .) t +0 to two(three(. . .) .)",
                "join three(. . .) two(. .) +0 to two(three(. . .) two(. .))", "join t two(. .) +1 to three(. . .)"]
        apart = {(1, 3), (1, 4)}
        for (i, one), (j, other) in itertools.combinations(enumerate(told), 2):
            clashes = (i, j) not in apart and j != 5
            self.assertIs(clash(Drawing(T, one), Drawing(T, other)), clashes, (one, other))

    def test_what_is_odd_counts_as_a_hole(self):
        one = Drawing(R, "mend rr(!+0:lred(red(. .) .) red(. .)) to ^red(rb(red(. .) .) bb(. .))")
        other = Drawing(R, "mend rr(!+0:lred(red(. .) .) red(. .)) to red(rb(red(. .) .) bb(. .))")
        self.assertIs(clash(one, other), True)
        cut = Drawing(T, "cut three(two(. .) x .) to two(two(. .) .)")
        self.assertIs(clash(cut, Drawing(T, "cut three(. x two(. .)) to two(. two(. .))")), True)
        self.assertIs(clash(cut, Drawing(T, "cut three(three(. . .) x .) to two(three(. . .) .)")), False)

    def test_other_schemes(self):
        put = Drawing(T, "put ^two")
        self.assertIs(clash(put, Drawing(T.without("three"), "put ^two")), False)
        self.assertIs(clash(put, Drawing(Scheme.from_lines(*T.lines), "put two")), True)

    def test_no_drawings(self):
        put = Drawing(T, "put ^two")
        self.refuses_odd(InvalidDrawing, lambda value: clash(value, put), lambda value: isinstance(value, Drawing))
        self.refuses_odd(InvalidDrawing, lambda value: clash(put, value), lambda value: isinstance(value, Drawing))
        self.refused(InvalidDrawing, clash, "put ^two", None)
