"""Point 0.17 and the seventh stage: ranks."""

from mendbooks.base.forms import Scheme
from mendbooks.errors import InvalidNumber, InvalidScheme, InvalidShape, TooMany, UnknownName
from mendbooks.ranks import ranks as module
from mendbooks.ranks.ranks import Ranks
from mendbooks.trees.shapes import Shape
from tests import chance, naive
from tests.books import REDS
from tests.cases import Case
from tests.closure import World
from tests.samples import HEIGHTS, LONGEST, REDBLACK, TOO_LONG, TWOTHREE, odd_values
from tests.schemes import CLIMB, EACH, HIDDEN, LEVEL, SOME, THIRDS, rings

R = REDS.scheme
KNOWN = (EACH, THIRDS, SOME, LEVEL, HIDDEN, CLIMB, TWOTHREE, REDBLACK, R)


def some_schemes(many):
    for number in range(many):
        scheme = chance.scheme_of(number, "abc" if number % 3 else "ab", 4,
                                  (0, 1, 1, 2, 3) if number % 2 else (0, 1, 2))
        try:
            Ranks(scheme)
        except TooMany:
            continue
        yield scheme


class Exist(Case):

    def test_constants(self):
        self.assertEqual((module.MAX_TURN, module.MAX_RANK), (100, 400))

    def test_turn_and_period(self):
        for scheme, turn, period in ((EACH, 0, 1), (THIRDS, 0, 6), (SOME, 4, 1), (LEVEL, 0, 1), (HIDDEN, 2, 1),
                                     (CLIMB, 0, 9), (rings(1), 1, 99)):
            ranks = Ranks(scheme)
            self.assertEqual((ranks.turn, ranks.period), (turn, period), scheme.lines)
            self.assertEqual(str(ranks), f"ranks from {turn} on by {period}")
            self.assertEqual(ranks.scheme, scheme)

    def test_sum_of_100_and_101(self):
        ranks = Ranks(rings(1))
        self.assertEqual(ranks.turn + ranks.period, 100)
        self.refused(TooMany, Ranks, rings(3), limit=100)
        world = World(rings(3))
        self.assertEqual(world.turn + world.period, 101)

    def test_beside_ranks_walked_one_by_one(self):
        for scheme in [*KNOWN, rings(1), *some_schemes(40)]:
            ranks, world = Ranks(scheme), World(scheme)
            self.assertEqual((ranks.turn, ranks.period), (world.turn, world.period))
            for rank in range(min(200, world.turn + 30 + 2 * world.period)):
                self.assertEqual(ranks.sorts_at(rank), tuple(sorted(world.sorts[rank])))
                self.assertEqual(ranks.forms_at(rank), tuple(sorted(world.forms[rank])))
                self.assertEqual(ranks.useful_at(rank), tuple(sorted(world.useful[None][rank])))
                for sort in scheme.sorts:
                    self.assertEqual(ranks.choices_at(sort, rank), tuple(world.choices(sort, rank)))

    def test_beside_trees(self):
        for scheme in KNOWN:
            ranks = Ranks(scheme)
            spots = {naive.spot_of(scheme, tree) for keys in naive.sound_trees(scheme, 5) for tree in keys}
            for sort, rank in spots:
                self.assertIn(sort, ranks.sorts_at(rank))
            tops = {(naive.spot_of(scheme, tree), tree[0] if tree else "")
                    for keys in naive.sound_trees(scheme, 5) for tree in keys}
            for (sort, rank), name in tops:
                self.assertIn(name, ranks.choices_at(sort, rank))
                self.assertEqual(name in ranks.forms_at(rank), name != "")

    def test_choices(self):
        ranks = Ranks(EACH)
        self.assertEqual([ranks.choices_at("t", rank) for rank in (0, 1, 2)],
                         [("",), ("even",), ("even", "left", "right")])
        self.assertEqual(Ranks(LEVEL).choices_at("t", 0), ("", "flat"))
        self.assertEqual(LONGEST % 6, 3)
        self.assertEqual([Ranks(THIRDS).choices_at("b", rank) for rank in (0, 1, 3, LONGEST, LONGEST - 1)],
                         [(), (), ("x",), ("x",), ()])

    def test_useful(self):
        ranks = Ranks(HIDDEN)
        self.assertEqual([ranks.sorts_at(rank) for rank in range(3)], [("a",), ("a", "d"), ("a", "c", "d")])
        self.assertEqual([ranks.useful_at(rank) for rank in (0, 1, 2, 3, 100)], [("a",)] * 5)
        self.assertEqual(Ranks(THIRDS).useful_at(3), ("b",))
        self.assertEqual(Ranks(R).useful_at(0), ("b", "r"))

    def test_bases(self):
        for scheme in (EACH, THIRDS, SOME, CLIMB, rings(1)):
            ranks = Ranks(scheme)
            end = ranks.turn + 12 + ranks.period
            low = ranks.turn + 12
            self.assertEqual([ranks.base_of(rank) for rank in range(end)], list(range(end)))
            self.assertEqual([ranks.base_of(rank) for rank in (end, end + 1, end + ranks.period)],
                             [low, low + (1 % ranks.period), low])
            for rank in (LONGEST, LONGEST - 7, 10 ** 30):
                base = ranks.base_of(rank)
                self.assertEqual((rank - base) % ranks.period, 0)
                self.assertTrue(low <= base < end)
                self.assertEqual(ranks.sorts_at(rank), ranks.sorts_at(base))
                self.assertEqual(ranks.forms_at(rank), ranks.forms_at(base))
                self.assertEqual(ranks.useful_at(rank), ranks.useful_at(base))

    def test_ranks_that_are_none(self):
        ranks = Ranks(TWOTHREE)
        for call in (ranks.base_of, ranks.sorts_at, ranks.forms_at, ranks.useful_at,
                     lambda rank: ranks.choices_at("t", rank)):
            self.refuses_odd(InvalidNumber, call, is_rank, keeps="value")
        for call in (ranks.least, ranks.least_shape, ranks.around):
            for value in odd_values():
                if not is_rank(value):
                    self.refused(InvalidNumber, call, "t", value, value=value)
                elif value > 400:
                    self.refused(TooMany, call, "t", value, limit=400)

    def test_sorts_that_are_none(self):
        ranks = Ranks(TWOTHREE)
        for call in (ranks.choices_at, ranks.least, ranks.least_shape, ranks.around):
            self.refuses_odd(UnknownName, lambda value: call(value, 3), lambda value: value == "t", keeps="name")
            self.refused(UnknownName, call, "two", None, name="two")
            self.refused(UnknownName, call, "s", 401, name="s")
            self.refused(InvalidNumber, call, "t", -1, value=-1)

    def test_no_scheme(self):
        self.refuses_odd(InvalidScheme, Ranks, lambda value: isinstance(value, Scheme))

    def test_equal(self):
        ranks = Ranks(TWOTHREE)
        self.assertTrue(ranks == Ranks(Scheme.from_lines(*TWOTHREE.lines)))
        self.assertTrue(ranks != Ranks(HEIGHTS))
        for value in [*odd_values(), TWOTHREE]:
            self.assertIs(ranks == value, isinstance(value, Ranks))
        with self.assertRaises(TypeError):
            iter(ranks)


def is_rank(value):
    return isinstance(value, int) and not isinstance(value, bool) and 0 <= value < TOO_LONG


class Least(Case):

    def test_known(self):
        self.assertEqual([Ranks(EACH).least("t", rank) for rank in range(8)], [0, 1, 2, 4, 7, 12, 20, 33])
        self.assertEqual([Ranks(TWOTHREE).least("t", rank) for rank in range(6)], [0, 1, 3, 7, 15, 31])
        self.assertEqual([Ranks(THIRDS).least("b", rank) for rank in (0, 3, 6, 9)], [None, 1, None, 7])
        self.assertEqual([Ranks(LEVEL).least("t", rank) for rank in range(4)], [0, 1, 3, 7])
        self.assertEqual(Ranks(TWOTHREE).least("t", 400), 2 ** 400 - 1)

    def test_beside_trees_made_by_force(self):
        for scheme in [*KNOWN, *some_schemes(25)]:
            ranks = Ranks(scheme)
            trees = naive.sound_trees(scheme, 5)
            for sort in scheme.sorts:
                for rank in range(12):
                    found = [keys for keys in range(6) if (sort, rank) in {naive.spot_of(scheme, tree)
                                                                           for tree in trees[keys]}]
                    least = ranks.least(sort, rank)
                    self.assertTrue(least == found[0] if found else least is None or least > 5)
                    self.assertEqual(least is None, sort not in ranks.sorts_at(rank))
                    self.check_shape(ranks, sort, rank, least)

    def check_shape(self, ranks, sort, rank, least):
        shape = ranks.least_shape(sort, rank)
        if least is None:
            self.assertIsNone(shape)
            return
        self.assertEqual((shape.size, shape.spot, shape.scheme), (least, (sort, rank), ranks.scheme))
        for below in subtrees(shape):
            self.assertEqual(ranks.least_shape(*below.spot), below)

    def test_one_shape_for_each_spot(self):
        for scheme in (EACH, R, LEVEL):
            ranks = Ranks(scheme)
            shape = ranks.least_shape(scheme.tops[0], 40)
            if shape is not None:
                self.assertEqual(len({below.spot for below in subtrees(shape)}), len(shape))
                for below in subtrees(shape):
                    self.assertEqual(ranks.least_shape(*below.spot), below)

    def test_limits(self):
        ranks = Ranks(EACH)
        shape = ranks.least_shape("t", 400)
        self.assertEqual((len(shape), shape.spot, shape.size), (400, ("t", 400), ranks.least("t", 400)))
        for call in (ranks.least, ranks.least_shape, ranks.around):
            self.refused(TooMany, call, "t", 401, limit=400)
            self.refused(TooMany, call, "t", LONGEST, limit=400)
            self.refused(InvalidNumber, call, "t", TOO_LONG, value=TOO_LONG)
        self.refused(TooMany, Ranks(SOME).least, "c", 401, limit=400)
        self.assertIsNone(Ranks(SOME).least("c", 400))


def subtrees(shape):
    """Shapes of all rows of a shape."""
    found = []
    for row in range(len(shape)):
        used, waiting = set(), [row]
        while waiting:
            at = waiting.pop()
            if at not in used:
                used.add(at)
                waiting += [child for child in shape.rows[at][1] if child is not None]
        order = sorted(used)
        rows = tuple((shape.rows[at][0], tuple(None if child is None else order.index(child)
                                               for child in shape.rows[at][1])) for at in order)
        found.append(Shape(shape.scheme, rows))
    return found


class Around(Case):

    def test_known(self):
        self.assertEqual([Ranks(EACH).around("t", rank) for rank in (0, 1, 399, 400)], [0, 0, 0, 0])
        self.assertEqual([Ranks(THIRDS).around("b", rank) for rank in (0, 3, 6, 9)], [None, 2, None, 8])
        self.assertEqual(Ranks(CLIMB).around("b", 1), 1 + 1 + 1 + 3 + 1 + 7)
        self.assertEqual(Ranks(R).around("r", 0), 1)
        self.assertIsNone(Ranks(R).around("l", 0))
        self.assertIsNone(Ranks(HIDDEN).around("d", 1))

    def test_ranks_above_400_count(self):
        ranks = Ranks(THIRDS)
        self.assertEqual(ranks.around("b", 399), 1 + ranks.least("b", 399))
        shape = ranks.least_shape("b", 399)
        top, path = ranks.hung(shape)
        self.assertEqual((top.spot, path, top.size), (("a", 402), (0,), 2 * shape.size + 1))

    def test_beside_trees_made_by_force(self):
        for scheme in [*KNOWN, *some_schemes(25)]:
            ranks = Ranks(scheme)
            around = self.around_by_force(scheme, 5)
            for sort in scheme.sorts:
                for rank in range(12):
                    told = ranks.around(sort, rank)
                    self.assertEqual(told is None, sort not in ranks.useful_at(rank))
                    if told is not None and told + ranks.least(sort, rank) <= 5:
                        self.assertEqual(told, around[(sort, rank)])
                    elif (sort, rank) in around:
                        self.assertLessEqual(told, around[(sort, rank)])

    def around_by_force(self, scheme, most):
        found = {}
        for keys, trees in enumerate(naive.sound_trees(scheme, most)):
            for tree in trees:
                for path in naive.paths_of(tree) if naive.is_right(scheme, tree) else ():
                    below = naive.at(tree, path)
                    spot = naive.spot_of(scheme, below)
                    outside = keys - naive.keys_of(below)
                    found[spot] = min(outside, found.get(spot, outside))
        return found

    def test_hung(self):
        for scheme in [*KNOWN, *some_schemes(15)]:
            ranks = Ranks(scheme)
            for keys in naive.sound_trees(scheme, 4):
                for tree in keys[:30]:
                    shape = Shape(scheme, naive.plain_rows(tree))
                    around = ranks.around(*shape.spot)
                    if around is None:
                        self.assertIsNone(ranks.hung(shape))
                    else:
                        top, path = ranks.hung(shape)
                        self.assertEqual((top.is_right, top.size, top.below(path)), (True, shape.size + around, shape))

    def test_hung_right_shape(self):
        shape = Shape(TWOTHREE, (("two", (None, None)),))
        self.assertEqual(Ranks(TWOTHREE).hung(shape), (shape, ()))
        self.assertEqual(Ranks(TWOTHREE).hung(Shape(TWOTHREE, ())), (Shape(TWOTHREE, ()), ()))

    def test_hung_wrong_shapes(self):
        ranks = Ranks(HEIGHTS)
        unsound = Shape(HEIGHTS, (("left", (None, None)),))
        for value in [*odd_values(), unsound, Shape(REDBLACK, ()), unsound.rows]:
            self.refused(InvalidShape, ranks.hung, value)

    def test_hung_limits(self):
        ranks = Ranks(TWOTHREE)
        for many, told in ((400, None), (401, 400)):
            rows = tuple(("two", (None,) * 2 if row == 0 else (row - 1,) * 2) for row in range(many))
            shape = Shape(TWOTHREE, rows)
            if told is None:
                self.assertEqual(ranks.hung(shape), (shape, ()))
            else:
                self.refused(TooMany, ranks.hung, shape, limit=400)

    def test_hung_with_too_many_rows(self):
        scheme = Scheme.from_lines("bare a", "tops a", "form flat b b0 a0", "form side b a0 a0", "form top a b1 a1",
                                   "form up a a1 a1")
        for many in (3999, 4000):
            rows = (("side", (None, None)), *(("flat", (row, None)) for row in range(many - 1)))
            shape = Shape(scheme, rows)
            self.assertEqual((len(shape), shape.spot), (many, ("b", 0)))
            if many == 3999:
                top, path = Ranks(scheme).hung(shape)
                self.assertEqual((len(top), path), (4000, (0,)))
            else:
                self.refused(TooMany, Ranks(scheme).hung, shape, limit=4000)
