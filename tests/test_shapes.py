"""Points 0.8, 0.9 and 6.1, and the sixth stage: shapes."""

import random

from mendbooks.base.forms import Scheme, mirrored_scheme
from mendbooks.errors import InvalidNumber, InvalidScheme, InvalidShape, TooMany, UnknownName, UnknownPath
from mendbooks.trees import shapes
from mendbooks.trees.shapes import Shape
from tests import chance, naive
from tests.books import REDS
from tests.cases import Case
from tests.samples import HEIGHTS, LONGEST, REDBLACK, TOO_LONG, TWOTHREE, odd_values

R = REDS.scheme
EMPTY = Shape(HEIGHTS, ())
LEAF = Shape(HEIGHTS, (("even", (None, None)),))
LEAN = Shape(HEIGHTS, (("even", (None, None)), ("left", (0, None))))
WIDE = Scheme.from_lines("bare t", "tops t", "form four t t1 t1 t1 t1", "form two t t1 t1")


def tower(many, name="four", width=4):
    """So many rows, each of them a node with the one before it as all its children."""
    return tuple((name, (None,) * width if row == 0 else (row - 1,) * width) for row in range(many))


def chain(many):
    """So many rows, each of them a node with the one before it as its first child."""
    return tuple(("two", (None if row == 0 else row - 1, None)) for row in range(many))


def some_tree(chance_of, scheme, depth):
    """A tree by chance, seldom a sound one."""
    if depth == 0 or chance_of.random() < 0.2:
        return None
    form = chance_of.choice(scheme.forms)
    return [form.called, *[some_tree(chance_of, scheme, depth - 1) for _ in form]]


def trees():
    """Pairs of a scheme and a tree: right ones, sound ones, and others."""
    chance_of = random.Random(6)
    for scheme in (HEIGHTS, TWOTHREE, REDBLACK, R):
        for keys in naive.sound_trees(scheme, 5):
            for tree in keys:
                yield scheme, tree
        for _ in range(60):
            yield scheme, some_tree(chance_of, scheme, 4)


class Made(Case):

    def test_constant(self):
        self.assertEqual(shapes.MAX_ROWS, 4000)

    def test_beside_plain_trees(self):
        for scheme, tree in trees():
            shape = Shape(scheme, naive.plain_rows(tree))
            self.assertEqual((shape.scheme, shape.rows), (scheme, naive.plain_rows(tree)))
            self.assertEqual((shape.size, shape.height), (naive.keys_of(tree), naive.height_of(tree)))
            self.assertEqual(shape.spot, naive.spot_of(scheme, tree))
            self.assertIs(self.judged(lambda: shape.is_right), naive.is_right(scheme, tree))
            self.assertEqual((len(shape), bool(shape)), (len(shape.rows), tree is not None))
            self.assertEqual(str(shape), f"shape with {naive.keys_of(tree)} keys, height {naive.height_of(tree)}")
            spots = [naive.spot_of(scheme, naive.tree_of(shape.rows, row)) for row in range(len(shape))]
            fault = spots.index(None) if None in spots else None if shape.is_right else len(shape)
            self.assertEqual(shape.fault, fault)

    def test_rows_that_are_not_plain(self):
        plain = (("even", (None, None)), ("left", (0, None)), ("even", (1, 1)))
        for rows in ((("even", (None, None)), ("even", (None, None)), ("left", (0, None)), ("left", (1, None)),
                      ("even", (2, 3))),
                     (("even", (None, None)), ("even", (None, None)), ("left", (1, None)), ("left", (0, None)),
                      ("even", (2, 3)))):
            self.assertEqual(Shape(HEIGHTS, rows).rows, plain)
            self.assertEqual(Shape(HEIGHTS, rows), Shape(HEIGHTS, plain))
        turned = (("left", (None, None)), ("even", (None, None)), ("right", (1, 0)))
        self.assertEqual(Shape(HEIGHTS, turned).rows, (turned[1], turned[0], ("right", (0, 1))))

    def test_rows_in_any_order(self):
        chance_of = random.Random(3)
        for scheme, tree in trees():
            rows = naive.plain_rows(tree)
            ready, order = [], []
            while len(order) < len(rows):
                ready = [row for row in range(len(rows)) if row not in order
                         and all(child is None or child in order for child in rows[row][1])]
                order.append(chance_of.choice(ready))
            told = tuple((rows[row][0], tuple(None if child is None else order.index(child) for child in rows[row][1]))
                         for row in order)
            self.assertEqual(Shape(scheme, told).rows, rows)

    def test_empty(self):
        for scheme in (HEIGHTS, REDBLACK):
            shape = Shape(scheme, ())
            self.assertEqual((shape.rows, shape.size, shape.height, shape.spot), ((), 0, 0, (scheme.bare, 0)))
            self.assertEqual((shape.is_right, shape.fault, len(shape), bool(shape)), (True, None, 0, False))
            self.assertEqual((shape.path_to(0), shape.name_at(()), shape.below(())), ((), None, shape))
            self.assertEqual(str(shape), "shape with 0 keys, height 0")

    def test_fault(self):
        for rows, fault in (((("even", (None, None)),), None), ((("left", (None, None)),), 0),
                            ((("even", (None, None)), ("left", (0, None)), ("even", (0, 1))), 2),
                            ((("even", (None, None)), ("right", (0, None)), ("even", (1, 1))), 1)):
            self.assertEqual(Shape(HEIGHTS, rows).fault, fault)
        red = Shape(R, (("red", (None, None)),))
        self.assertEqual((red.fault, red.is_right, red.spot), (1, False, ("r", 0)))

    def test_wrong_rows(self):
        leaf = ("even", (None, None))
        for rows in ([leaf], (["even", (None, None)],), (("even", [None, None]),), (("even", (None,)),), (leaf, leaf),
                     (("even", (None, None, None)),), (("odd", (None, None)),), ((HEIGHTS["even"], (None, None)),),
                     (("even", (0, None)),), (leaf, ("even", (1, None))), (leaf, ("even", (2, 0))),
                     (leaf, ("even", (-1, 0))), (leaf, ("even", (True, 0))), (leaf, ("even", (False, 0))),
                     (leaf, ("even", ("0", None))), (leaf, ("even", (0, ()))), (leaf, leaf, ("even", (0, None))),
                     (leaf, ("left", (0, None)), ("even", (0, 0))), (leaf, ("even", (TOO_LONG, 0))), (leaf, ()),
                     (leaf, None), (leaf, "even"), (leaf, ("even", (0, None), 1)), ((("even",), (None, None)),),
                     ((["even"], (None, None)),), ((None, (None, None)),), (leaf, ("even", (0, None)), leaf)):
            self.refused(InvalidShape, Shape, HEIGHTS, rows)
        for value in odd_values():
            if value == ():
                self.assertEqual(Shape(TWOTHREE, value).rows, ())
            elif repr(value) in ("(('two', (None, None)),)", "(('three', (None, None, None)),)"):
                self.assertEqual(Shape(TWOTHREE, value).rows, value)
            else:
                self.refused(InvalidShape, Shape, TWOTHREE, value)

    def test_no_scheme(self):
        self.refuses_odd(InvalidScheme, lambda value: Shape(value, ()), lambda value: isinstance(value, Scheme))
        self.refused(InvalidScheme, Shape, None, None)

    def test_4000_and_4001_rows(self):
        shape = Shape(WIDE, chain(4000))
        self.assertEqual((len(shape), shape.height, shape.size), (4000, 4000, 4000))
        self.refused(InvalidShape, Shape, WIDE, chain(4001))
        # Rows count even where equal trees could share one.
        twice = (*chain(1)[:1] * 3999, )
        self.refused(InvalidShape, Shape, WIDE, (*twice, *chain(2)))

    def test_more_keys_than_can_be_walked(self):
        shape = Shape(WIDE, tower(4000))
        self.assertEqual((len(shape), shape.height, shape.size), (4000, 4000, 4 ** 4000 - 1))
        self.assertEqual((shape.spot, shape.is_right, shape.fault), (("t", 4000), True, None))
        self.assertEqual(shape.path_to(0), (0,) * 4000)
        self.assertEqual(shape.path_to(3 + 4 ** 50), (*(0,) * 3949, 1, *(0,) * 49, 3))
        self.assertEqual(str(shape), f"shape with {4 ** 4000 - 1} keys, height 4000")


class Nodes(Case):

    def test_beside_plain_trees(self):
        for scheme, tree in trees():
            if tree is not None:
                parts = tuple(Shape(scheme, naive.plain_rows(child)) for child in tree[1:])
                self.assertEqual(Shape.node(scheme, tree[0], parts).rows, naive.plain_rows(tree))

    def test_parts_that_share(self):
        both = Shape.node(HEIGHTS, "even", (LEAN, LEAN))
        self.assertEqual(both.rows, (("even", (None, None)), ("left", (0, None)), ("even", (1, 1))))
        self.assertEqual(Shape.node(HEIGHTS, "even", (LEAN, LEAF)).rows, (*LEAN.rows, ("even", (1, 0))))
        self.assertEqual(Shape.node(HEIGHTS, "even", (EMPTY, EMPTY)), LEAF)

    def test_too_many_rows(self):
        low = Shape(WIDE, tower(3999, "two", 2))
        self.assertEqual(len(Shape.node(WIDE, "two", (low, low))), 4000)
        full = Shape(WIDE, tower(4000, "two", 2))
        self.refused(TooMany, Shape.node, WIDE, "two", (full, full), limit=4000)
        self.refused(TooMany, Shape.node, WIDE, "two", (Shape(WIDE, chain(2001)), Shape(WIDE, tower(2001))), limit=4000)
        self.assertEqual(len(Shape.node(WIDE, "two", (Shape(WIDE, chain(2000)), Shape(WIDE, tower(1999))))), 4000)

    def test_wrong_arguments(self):
        parts = (LEAF, LEAF)
        self.refuses_odd(InvalidScheme, lambda value: Shape.node(value, "even", parts),
                         lambda value: isinstance(value, Scheme))
        self.refuses_odd(UnknownName, lambda value: Shape.node(HEIGHTS, value, parts),
                         lambda value: value in ("even", "left") and isinstance(value, str), keeps="name")
        self.refused(UnknownName, Shape.node, HEIGHTS, HEIGHTS["even"], parts)
        for value in [*odd_values(), (LEAF,), (LEAF, LEAF, LEAF), [LEAF, LEAF], (LEAF, None), (LEAF, ()), LEAF,
                      (LEAF, Shape(TWOTHREE, ())), (LEAF.rows, LEAF.rows)]:
            self.refused(InvalidShape, Shape.node, HEIGHTS, "even", value)
        self.refused(InvalidScheme, Shape.node, None, "odd", None)
        self.refused(UnknownName, Shape.node, HEIGHTS, "odd", None, name="odd")


class Paths(Case):

    def test_beside_plain_trees(self):
        for scheme, tree in trees():
            shape = Shape(scheme, naive.plain_rows(tree))
            self.assertEqual([shape.path_to(gap) for gap in range(shape.size + 1)], naive.gaps_of(tree))
            for path in naive.paths_of(tree):
                below = naive.at(tree, path)
                self.assertEqual(shape.name_at(path), below and below[0])
                self.assertEqual(shape.below(path).rows, naive.plain_rows(below))

    def test_gaps_that_are_none(self):
        for shape in (EMPTY, LEAF, LEAN):
            self.refuses_odd(InvalidNumber, shape.path_to, lambda value: isinstance(value, int) and not isinstance(
                value, bool) and 0 <= value <= shape.size, keeps="value")
            self.refused(InvalidNumber, shape.path_to, shape.size + 1, value=shape.size + 1)
            self.refused(InvalidNumber, shape.path_to, -1, value=-1)
            self.assertEqual(len(shape.path_to(shape.size)), shape.path_to(shape.size).count(1))
        great = Shape(WIDE, tower(4000))
        self.assertEqual(len(great.path_to(LONGEST)), 4000)
        self.refused(InvalidNumber, great.path_to, TOO_LONG, value=TOO_LONG)

    def test_paths_that_are_none(self):
        for call in (LEAN.below, LEAN.name_at, lambda path: LEAN.replaced(path, LEAF)):
            fine = [(), (0,), (1,), (0, 0), (0, 1)]
            for value in [*odd_values(), (1, 0), (2,), (-1,), (0, 2), (0, 0, 0), (True,), (0, False), [0], "0", 0,
                          (None,),
                          ("0",), ((0,),), (TOO_LONG,)]:
                if any(value == path and repr(value) == repr(path) for path in fine):
                    call(value)
                else:
                    self.refused(UnknownPath, call, value, path=value)
        self.refused(UnknownPath, EMPTY.below, (0,), path=(0,))

    def test_long_paths(self):
        shape = Shape(WIDE, chain(4000))
        self.assertEqual(shape.name_at((0,) * 3999), "two")
        self.assertIsNone(shape.name_at((0,) * 4000))
        self.refused(UnknownPath, shape.name_at, (0,) * 4001)
        self.assertEqual(shape.below((0,) * 3999).rows, chain(1))


class Replaced(Case):

    def test_beside_plain_trees(self):
        for scheme, tree in trees():
            shape = Shape(scheme, naive.plain_rows(tree))
            form = scheme.forms[0]
            for other in (None, [form.called, *[None] * len(form)]):
                for path in naive.paths_of(tree):
                    replaced = shape.replaced(path, Shape(scheme, naive.plain_rows(other)))
                    self.assertEqual(replaced.rows, naive.plain_rows(naive.exchanged(tree, path, other)))

    def test_one_of_several_equal_subtrees(self):
        both = Shape.node(HEIGHTS, "even", (LEAN, LEAN))
        self.assertEqual(both.replaced((0,), LEAF).rows, (*LEAN.rows, ("even", (0, 1))))
        self.assertEqual(both.replaced((), LEAF), LEAF)
        self.assertEqual(both.rows, (*LEAN.rows, ("even", (1, 1))))

    def test_too_many_rows(self):
        full = Shape(WIDE, tower(4000, "two", 2))
        leaf = Shape(WIDE, chain(1))
        self.refused(TooMany, full.replaced, (0,) * 4000, leaf, limit=4000)
        self.assertEqual(len(full.replaced((0,), Shape(WIDE, ()))), 4000)
        self.assertEqual(len(full.replaced((), leaf)), 1)
        self.refused(TooMany, full.replaced, (0, 0), leaf, limit=4000)

    def test_wrong_arguments(self):
        for value in odd_values():
            self.refused(InvalidShape, LEAN.replaced, (0,), value)
            self.refused(UnknownPath, LEAN.replaced, (2,), value)
        self.refused(InvalidShape, LEAN.replaced, (0,), Shape(mirrored_scheme(HEIGHTS), ()))
        self.refused(UnknownPath, LEAN.replaced, None, None)


class Mirrored(Case):

    def test_beside_plain_trees(self):
        def turned(tree):
            return None if tree is None else [tree[0], *map(turned, tree[:0:-1])]

        for scheme, tree in trees():
            shape = Shape(scheme, naive.plain_rows(tree))
            mirrored = shape.mirrored()
            self.assertEqual((mirrored.scheme, mirrored.rows),
                             (mirrored_scheme(scheme), naive.plain_rows(turned(tree))))
            self.assertEqual((mirrored.size, mirrored.spot, mirrored.mirrored()), (shape.size, shape.spot, shape))


class Equal(Case):

    def test_equal(self):
        told = [Shape(scheme, rows) for scheme in (HEIGHTS, mirrored_scheme(HEIGHTS))
                for rows in ((), LEAF.rows, LEAN.rows)]
        for at, one in enumerate(told):
            for other_at, other in enumerate(told):
                self.assertIs(one == other, at == other_at)
                self.assertIs(one != other, at != other_at)
            for value in [*odd_values(), one.rows, one.scheme]:
                self.assertIs(one == value, False)
        self.assertEqual(Shape(TWOTHREE, (("two", (None, None)),)),
                         [value for value in odd_values() if isinstance(value, Shape)][0])

    def test_not_iterated(self):
        for shape in (EMPTY, LEAN):
            for call in (iter, list, tuple, sorted):
                with self.assertRaises(TypeError):
                    call(shape)

    def test_nothing_changes(self):
        kept = (LEAN.rows, LEAN.size, LEAN.spot, LEAN.fault)
        LEAN.replaced((0,), EMPTY)
        LEAN.mirrored()
        LEAN.below((0,))
        self.assertEqual((LEAN.rows, LEAN.size, LEAN.spot, LEAN.fault), kept)


class Chance(Case):

    def test_other_schemes(self):
        for number in range(25):
            scheme = chance.scheme_of(number)
            for keys in naive.sound_trees(scheme, 4):
                for tree in keys[:40]:
                    shape = Shape(scheme, naive.plain_rows(tree))
                    self.assertEqual((shape.spot, shape.is_right),
                                     (naive.spot_of(scheme, tree), naive.is_right(scheme, tree)))
