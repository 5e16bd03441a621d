"""Points 0.10, 0.14, 3.1 and the third stage: pictures."""

import itertools
import re
import types

from mendbooks.base import pictures
from mendbooks.base.pictures import Picture, are_apart, split_text
from mendbooks.base.words import is_name
from mendbooks.errors import InvalidName, InvalidPicture, UnknownPath
from tests.cases import Case
from tests.samples import LONGEST, TOO_LONG, odd_values

TEXTS = (".", "a(. .)", "a(. . .)", "a(. . . .)", "two(two(. .) . .)", "a(. b(. .))", "a(b(. .) c(. .))",
         "x(x(. .) x(. x(. .)))", "abcdefgh(zyxwvuts(. .) . .)", "a(b(c(d(. .) .) .) .)", "a(. b(. c(. d(. .))))",
         "a(b(. c(d(. . .) .) e(. .)) . f(. .))")
FINE_ODD_TEXTS = (".", "two(. .)")


def node(called, *texts):
    return f"{called}({' '.join(texts)})"


def texts_of(levels, called, children):
    """All texts of pictures of at most so many levels, with this name and these numbers of children."""
    texts = ["."]
    for _ in range(levels):
        texts = [".", *(node(called, *parts) for many in children for parts in itertools.product(texts, repeat=many))]
    return texts


def full(levels, many, called="abcdefgh"):
    """The text of the greatest picture with so many levels."""
    return "." if levels == 0 else node(called, *[full(levels - 1, many, called)] * many)


def reduces(text):
    """Whether a hole is left of a text if four times all that stands above holes alone becomes a hole."""
    for _ in range(4):
        text = re.sub(r"[a-z]{1,8}\(\.( \.){1,3}\)", ".", text)
    return text == "."


class Constants(Case):

    def test_constants(self):
        self.assertEqual((pictures.MAX_LEVELS, pictures.HOLE), (4, "."))


class Read(Case):

    def test_text(self):
        for text in TEXTS:
            self.assertEqual((Picture(text).text, str(Picture(text))), (text, text))

    def read_as(self, text, right):
        if right:
            self.assertEqual(Picture(text).text, text)
        else:
            with self.assertRaises(InvalidPicture, msg=text):
                Picture(text)

    def test_every_short_text(self):
        for many in range(9):
            for signs in itertools.product("a.( )", repeat=many):
                text = "".join(signs)
                self.read_as(text, text in (".", "a(. .)", "aa(. .)", "aaa(. .)", "a(. . .)"))

    def test_every_text_with_one_sign_changed(self):
        for text in TEXTS:
            for at in range(len(text) + 1):
                for sign in ("", ".", "(", ")", " ", "c", "!", "^", "C", "\n", "\t"):
                    for other in (text[:at] + sign + text[at:], text[:at] + sign + text[at + 1:]):
                        self.read_as(other, reduces(other))

    def test_two_to_four_children(self):
        for many in range(8):
            for text in (node("a", *["."] * many), node("b", ".", node("a", *["."] * many))):
                if 2 <= many <= 4:
                    self.assertEqual(Picture(text).text, text)
                else:
                    self.refused(InvalidPicture, Picture, text)

    def test_four_levels(self):
        for many in (2, 4):
            self.assertEqual(Picture(full(4, many)).levels, 4)
            self.refused(InvalidPicture, Picture, full(5, many, "a"))
        self.refused(InvalidPicture, Picture, "a(. b(. c(. d(. e(. .)))))")
        self.refused(InvalidPicture, Picture, "a(b(c(d(e(. .) .) .) .) .)")
        self.refused(InvalidPicture, Picture, "a(b(. .) c(d(e(f(. .) .) .) .))")
        self.assertEqual(Picture("a(b(. .) c(d(e(. .) .) .))").levels, 4)

    def test_very_deep_texts(self):
        for many in (5, 300, 790):
            self.refused(InvalidPicture, Picture, "a(. " * many + "." + ")" * many)
            self.refused(InvalidPicture, Picture, "a(" * many + ". ." + " .)" * many)

    def test_names(self):
        for name in ("a", "z", "x", "to", "abcdefgh"):
            self.assertEqual(Picture(node(name, ".", ".")).called, name)
        for name in ("", "abcdefghi", "A", "a1", "a b", "^a", "!a", "a.", ".", "a_", "\u00e9"):
            self.refused(InvalidPicture, Picture, node(name, ".", "."))

    def test_blanks(self):
        for text in (" .", ". ", "a(.  .)", "a( . .)", "a(. . )", "a (. .)", " a(. .)", "a(. .) ", "a(.. .)", "a(..)",
                     "a(.\n.)", "a(. .)\n", "a(.,.)", "a(.\t.)", "a(. .).", "a(. .)a(. .)", "a(. .) a(. .)", "a(. b)",
                     "a", "t", "a()", "a(.)", "(. .)", "a(. .", "a. .)", "a(. .))", "a((. .)", "a(. (. .))", ")(",
                     "a)(", "a(. .)(. .)", "a(b(. .)c(. .))", "a(b(. .). .)", ".(. .)", "..", ". ."):
            self.refused(InvalidPicture, Picture, text)

    def test_no_marks_no_x_and_no_odd_child(self):
        for text in ("^a(. .)", "a(^b(. .) .)", "a(x .)", "a(. x)", "x", "a(!+1:t .)", "a(!-1:b(. .) .)", "!+1:t"):
            self.refused(InvalidPicture, Picture, text)

    def test_every_value(self):
        self.refuses_odd(InvalidPicture, Picture,
                         lambda value: isinstance(value, str) and value in FINE_ODD_TEXTS)
        self.refused(InvalidPicture, Picture, Picture("."))
        self.refused(InvalidPicture, Picture, b".")


class Split(Case):

    def test_name_and_texts(self):
        self.assertEqual(split_text("a(. b(. .) x)"), ("a", [".", "b(. .)", "x"]))
        self.assertEqual(split_text("^a(!-1:b(. .) .)"), ("^a", ["!-1:b(. .)", "."]))
        self.assertEqual(split_text("a()"), ("a", [""]))

    def test_brackets_that_do_not_pair(self):
        for text in ("", ".", "a", "a(. .", "a. .)", "a((. .)", "a(. .))", "a(. .)b(. .)", "a() (.)", "a(. .) "):
            self.assertIsNone(split_text(text), text)


class Made(Case):

    def test_of(self):
        hole, leaf = Picture("."), Picture("b(. . .)")
        self.assertEqual(Picture.of("a", (hole, leaf)).text, "a(. b(. . .))")
        self.assertEqual(Picture.of("b", (hole,) * 4).text, "b(. . . .)")
        made = Picture.of("a", (leaf, hole))
        self.assertEqual((type(made), made.names, made.holes, made.levels), (Picture, ("a", "b"), 4, 2))

    def test_the_same_as_of_a_text(self):
        for text in TEXTS[1:]:
            picture = Picture(text)
            self.assertEqual(Picture.of(picture.called, picture.parts), picture)

    def test_name(self):
        parts = (Picture("."), Picture("."))
        self.refuses_odd(InvalidName, lambda value: Picture.of(value, parts), is_name)
        for name in (None, ".", "", "abcdefghi", "A", "a(", "^a"):
            self.refused(InvalidName, Picture.of, name, parts)

    def test_parts(self):
        hole = Picture(".")
        for parts in ((), (hole,), (hole,) * 5, [hole, hole], (hole, "."), (".", "."), (hole, None), hole, None,
                      (hole, (hole, hole)), {hole.text: hole}, Picture("a(. .)"), ((), ())):
            self.refused(InvalidPicture, Picture.of, "a", parts)
        self.refuses_odd(InvalidPicture, lambda value: Picture.of("a", value),
                         lambda value: isinstance(value, tuple) and len(value) == 2
                         and all(isinstance(part, Picture) for part in value))

    def test_four_levels(self):
        hole, three, four = Picture("."), Picture(full(3, 2)), Picture(full(4, 2))
        self.assertEqual(Picture.of("a", (hole, three)).levels, 4)
        self.refused(InvalidPicture, Picture.of, "a", (hole, four))
        self.refused(InvalidPicture, Picture.of, "a", (four, hole, hole))

    def test_first_wrong_argument_decides(self):
        self.refused(InvalidName, Picture.of, "", ())
        self.refused(InvalidName, Picture.of, None, None)


class Told(Case):

    def test_hole(self):
        hole = Picture(".")
        self.assertEqual((hole.called, hole.parts, hole.holes, hole.levels, hole.names), (None, (), 1, 0, ()))
        self.assertEqual((len(hole), bool(hole), list(hole.paths()), hole.mirrored()), (0, False, [], hole))

    def test_one_level(self):
        leaf = Picture("two(. . .)")
        self.assertEqual((leaf.called, leaf.parts, leaf.holes), ("two", (Picture("."),) * 3, 3))
        self.assertEqual((leaf.levels, leaf.names, len(leaf), bool(leaf)), (1, ("two",), 1, True))
        self.assertEqual(list(leaf.paths()), [()])

    def test_several_levels(self):
        picture = Picture("a(b(. c(d(. . .) .) e(. .)) . f(. .))")
        self.assertEqual((picture.holes, picture.levels, len(picture)), (10, 4, 6))
        self.assertEqual(picture.names, ("a", "b", "c", "d", "e", "f"))
        self.assertEqual(list(picture.paths()), [(), (0,), (0, 1), (0, 1, 0), (0, 2), (2,)])
        self.assertEqual([part.text for part in picture.parts], ["b(. c(d(. . .) .) e(. .))", ".", "f(. .)"])

    def test_greatest_picture(self):
        picture = Picture(full(4, 4))
        self.assertEqual((picture.holes, len(picture), picture.levels), (256, 85, 4))
        self.assertEqual(len(list(picture.paths())), 85)

    def test_kinds_of_values(self):
        for text in TEXTS:
            picture = Picture(text)
            self.assertEqual((type(picture.parts), type(picture.names)), (tuple, tuple))
            self.assertIs(type(bool(picture)), bool)

    def test_paths_are_generated(self):
        paths = Picture("a(b(. .) .)").paths()
        self.assertIsInstance(paths, types.GeneratorType)
        self.assertEqual((next(paths), next(paths), next(paths, None)), ((), (0,), None))

    def test_paths_lead_to_the_names(self):
        for text in TEXTS:
            picture = Picture(text)
            self.assertEqual(tuple(picture[path].called for path in picture.paths()), picture.names)

    def test_example(self):
        picture = Picture("left(left(. .) .)")
        found = [picture.holes, picture.levels, list(picture.paths()), picture[(0,)].text, picture.mirrored().text]
        self.assertEqual(found, [3, 2, [(), (0,)], "left(. .)", "left(. left(. .))"])

    def test_properties_are_not_assigned(self):
        for word in ("text", "called", "parts", "holes", "levels", "names"):
            with self.assertRaises(AttributeError):
                setattr(Picture("."), word, ())


class Looked(Case):

    def test_pictures_at_paths(self):
        picture = Picture("a(b(. c(. .)) .)")
        found = [picture[path].text for path in ((), (0,), (0, 0), (0, 1), (0, 1, 1), (1,))]
        self.assertEqual(found, ["a(b(. c(. .)) .)", "b(. c(. .))", ".", "c(. .)", ".", "."])
        self.assertEqual(Picture(".")[()], Picture("."))

    def test_paths_that_lead_to_nothing(self):
        picture = Picture("a(b(. c(. .)) .)")
        for path in ((2,), (-1,), (1, 0), (0, 2), (0, 1, 2), (0, 0, 0), (0, 1, 0, 0), (True,), (False,), (0, True),
                     (None,), ("0",), ((0,),), ([0],), (LONGEST,), (TOO_LONG,), [0], [], {}, {0: 1}, 0, 1, True, None,
                     "", "a", "0", slice(0, 1), picture):
            self.refused(UnknownPath, lambda: picture[path], path=path)
        self.refused(UnknownPath, lambda: Picture(".")[(0,)], path=(0,))

    def test_every_value(self):
        self.refuses_odd(UnknownPath, lambda value: Picture("a(. .)")[value],
                         lambda value: value == () or (value == (0,) and value[0] is not False), keeps="path")

    def test_no_iteration(self):
        for text in (".", "a(b(. .) .)"):
            for call in (iter, list, tuple, sorted, enumerate):
                self.refused(TypeError, call, Picture(text))


class Mirrored(Case):

    def test_children_stand_in_the_opposite_order(self):
        pairs = (("a(. b(. . c(. .)))", "a(b(c(. .) . .) .)"), ("a(b(. .) c(. .) . .)", "a(. . c(. .) b(. .))"))
        for one, other in pairs:
            self.assertEqual(Picture(one).mirrored().text, other)
            self.assertEqual(Picture(other).mirrored().text, one)

    def test_twice(self):
        for text in TEXTS:
            self.assertEqual(Picture(text).mirrored().mirrored().text, text)


class Compared(Case):

    def test_equal_texts(self):
        for one in TEXTS:
            for other in TEXTS:
                self.assertIs(Picture(one) == Picture(other), one == other)
                self.assertIs(Picture(one) != Picture(other), one != other)

    def test_every_value(self):
        for value in odd_values():
            equal = isinstance(value, Picture) and value.text == "two(. .)"
            self.assertIs(Picture("two(. .)") == value, equal)
            self.assertIs(value == Picture("two(. .)"), equal)
            self.assertIs(Picture("two(. .)") != value, not equal)
        self.assertIs(Picture(".") == ".", False)


class Apart(Case):

    def test_unlike_names_at_one_path(self):
        for one, other in (("a(. .)", "b(. .)"), ("a(. .)", "b(. . .)"), ("a(b(. .) .)", "a(c(. .) .)"),
                           ("a(b(. .) c(. .))", "a(. d(. .))"), ("a(b(. d(. .)) .)", "a(b(. e(. .)) c(. .))"),
                           ("a(. b(. .))", "a(. c(. .) .)"), ("a(b(c(d(. .) .) .) .)", "a(b(c(e(. .) .) .) .)")):
            self.assertIs(are_apart(Picture(one), Picture(other)), True)
            self.assertIs(are_apart(Picture(other), Picture(one)), True)

    def test_no_such_path(self):
        for one, other in ((".", "."), (".", "a(. .)"), ("a(. .)", "a(. .)"), ("a(b(. .) .)", "a(. c(. .))"),
                           ("a(. .)", "a(b(. .) c(. .))"), ("a(. .)", "a(. . .)"), ("a(. .)", "a(. . b(. .))"),
                           ("a(b(. .) .)", "a(b(. . .) .)"), ("a(b(. .) c(. .))", "a(b(. .) c(. .))")):
            self.assertIs(are_apart(Picture(one), Picture(other)), False)
            self.assertIs(are_apart(Picture(other), Picture(one)), False)

    def test_as_the_words_say(self):
        made = [Picture(text) for text in (*TEXTS, *texts_of(2, "a", (2,)), "a(b(. .) .)", "b(. a(. .))")]
        for one in made:
            for other in made:
                here = dict(zip(one.paths(), one.names))
                there = dict(zip(other.paths(), other.names))
                unlike = any(path in there and here[path] != there[path] for path in here)
                self.assertIs(are_apart(one, other), unlike)

    def test_no_pictures(self):
        leaf = Picture("a(. .)")
        self.refuses_odd(InvalidPicture, lambda value: are_apart(value, leaf), lambda value: isinstance(value, Picture))
        self.refuses_odd(InvalidPicture, lambda value: are_apart(leaf, value), lambda value: isinstance(value, Picture))
        self.refused(InvalidPicture, are_apart, Picture("."), "a(. .)")
        self.refused(InvalidPicture, are_apart, "a(. .)", Picture("."))
