"""Points 16.1 and 16.2, and the sixteenth stage: indexes."""

import itertools
import random

from mendbooks.books.books import Book, mirrored_book
from mendbooks.errors import (
    AbsentKey, InvalidBook, InvalidNumber, InvalidOperation, InvalidShape, NoMend, NothingToUndo, TooMany)
from mendbooks.mend.deeds import cut, fresh_nodes, put
from mendbooks.ranks.counts import each_right
from mendbooks.trees.shapes import Shape
from mendbooks.use.index import Index
from tests import chance, naive, naive_joins
from tests.books import FOURS, GLUE, RED_JOINS, REDS, TWOTHREE, balanced_book
from tests.cases import Case
from tests.samples import HEIGHTS, LONGEST, TOO_LONG, odd_values
from tests.test_deeds import tower
from tests.test_joins import ROOT
from tests.test_least import shapes_until
from tests.test_tables import LESS, LEVEL, with_ranks

T = TWOTHREE.scheme
EMPTY = Index(TWOTHREE)
THREE = Shape(T, (("three", (None, None, None)),))
GOOD = (TWOTHREE, GLUE, mirrored_book(GLUE), LEVEL)


def nodes_of(shape):
    """The number of nodes of the tree of a shape."""
    many = []
    for _, children in shape.rows:
        many.append(1 + sum(many[child] for child in children if child is not None))
    return many[-1] if many else 0


def is_key(value):
    return isinstance(value, int) and not isinstance(value, bool) and abs(value) < TOO_LONG


class Checked(Case):

    def check(self, index, keys):
        """Compares all that an index tells of its keys with a sorted list."""
        keys = sorted(keys)
        self.assertEqual((index.content, list(index), len(index)), (tuple(keys), keys, len(keys)))
        self.assertEqual((index.shape.size, index.shape.is_right), (len(keys), True))
        self.assertEqual(index.shape.scheme, index.book.scheme)
        self.assertEqual(str(index), f"index of {len(keys)} keys, height {index.shape.height}")
        self.assertEqual([index[number] for number in range(len(keys))], keys)
        around = sorted({key + more for key in keys for more in (-1, 0, 1)} | {0, LONGEST, -LONGEST})
        for key in [key for key in around if is_key(key)]:
            self.assertIs(key in index, key in keys)
            less = [other for other in keys if other < key]
            more = [other for other in keys if other > key]
            self.assertEqual(index.less(key), len(less))
            self.assertEqual(index.under(key), less[-1] if less else None)
            self.assertEqual(index.over(key), more[0] if more else None)
        return index

    def check_between(self, index, low, high):
        keys = [key for key in index.content if (low is None or key >= low) and (high is None or key < high)]
        self.assertEqual(list(index.between(low, high)), keys)


class Histories(Checked):

    def check_step(self, index, other, deed):
        """One index was made of the other one by a deed that makes just some nodes anew."""
        book = index.book
        made = nodes_of(other.shape)
        self.assertEqual(other.shared(index), made - fresh_nodes(book, index.shape, deed))
        self.assertEqual(index.shared(other), other.shared(index))
        self.assertEqual(other.elder(), index)
        self.assertEqual(other.shared(other.elder()), other.shared(index))
        kind, gap = deed
        self.assertEqual(other.shape, (put if kind == "put" else cut)(book, index.shape, gap))

    def check_history(self, book, number, many, most=40, cuts=True):
        dice = random.Random(number)
        index, keys, past = Index(book), [], []
        for _ in range(many):
            key = dice.randrange(most)
            past.append(index)
            if key in keys and cuts:
                other = index.without_key(key)
                self.check_step(index, other, ("cut", sorted(keys).index(key) + 1))
                keys.remove(key)
            elif key in keys:
                past.pop()
                continue
            else:
                other = index.with_key(key)
                keys.append(key)
                self.check_step(index, other, ("put", sorted(keys).index(key)))
            index = other
        self.check(index, keys)
        for low, high in itertools.product((None, *range(-1, most + 2, 7)), repeat=2):
            self.check_between(index, low, high)
        for back, older in enumerate(past[::-1]):
            self.assertEqual(index.elder(many=back + 1), older)
            self.assertEqual(index.elder(many=back + 1).shared(older), nodes_of(older.shape))
        self.refused(NothingToUndo, lambda: index.elder(many=len(past) + 1), many=len(past) + 1)

    def test_good_books(self):
        for number, book in enumerate(GOOD):
            self.check_history(book, number, 120)
            self.check_history(book, number + 50, 60, 9)

    def test_puts_alone(self):
        for number, book in enumerate((REDS, balanced_book(), mirrored_book(REDS))):
            self.check_history(book, number, 60, 100, cuts=False)

    def test_keys_all_at_once(self):
        for book in (*GOOD, REDS, balanced_book()):
            for number in range(12):
                content = list(range(number * 3))
                random.Random(number).shuffle(content)
                index = self.check(Index(book, tuple(content)), content)
                one_by_one = Index(book)
                for key in content:
                    one_by_one = one_by_one.with_key(key)
                self.assertEqual(index, one_by_one)
                self.assertEqual(index.elder(many=len(content)), Index(book))
                for many in range(len(content)):
                    self.assertEqual(index.elder(many=many).content, tuple(sorted(content[:len(content) - many])))

    def test_each_cut_of_each_small_tree(self):
        for book in (GLUE, mirrored_book(GLUE)):
            for keys in range(1, 10):
                for shape in each_right(book.scheme, keys):
                    index = Index.from_shape(book, shape, tuple(range(0, 2 * keys, 2)))
                    for number in range(keys):
                        other = index.without_key(2 * number)
                        self.check_step(index, other, ("cut", number + 1))
                        self.assertEqual(other.content, index.content[:number] + index.content[number + 1:])
                    for number in range(keys + 1):
                        other = index.with_key(2 * number - 1)
                        self.check_step(index, other, ("put", number))

    def test_books_by_chance(self):
        done = fails = 0
        for book in with_ranks(range(1200, 1230)):
            for shape in shapes_until(book.scheme, 5, 25)[0]:
                index = Index.from_shape(book, shape, tuple(range(0, 2 * shape.size, 2)))
                for number in range(shape.size):
                    try:
                        left = cut(book, shape, number + 1)
                    except NoMend as error:
                        self.refused(NoMend, index.without_key, 2 * number, where=error.where)
                        fails += 1
                        continue
                    other = index.without_key(2 * number)
                    self.assertEqual(other.shape, left)
                    self.check_step(index, other, ("cut", number + 1))
                    done += 1
        self.assertGreater(min(done, fails), 80)

    def test_great_keys(self):
        content = (LONGEST, -LONGEST, 0, 10 ** 59, LONGEST - 1)
        index = self.check(Index(TWOTHREE, content), content)
        self.assertEqual((index.over(LONGEST), index.under(-LONGEST), index.over(LONGEST - 1)), (None, None, LONGEST))
        self.assertEqual(list(index.between(LONGEST, None)), [LONGEST])
        self.assertIs(TOO_LONG in index, False)

    def test_many_keys(self):
        index = Index(TWOTHREE, tuple(range(1500)))
        self.assertEqual((len(index), index.shape.size, index[777]), (1500, 1500, 777))
        chain = Index(LEVEL, tuple(range(500)))
        self.assertEqual((chain.shape.height, str(chain)), (500, "index of 500 keys, height 500"))
        self.assertEqual(len(chain.without_key(0)), 499)
        self.assertEqual(chain.shared(chain.elder()), 0)


class Merged(Checked):

    def check_merged(self, one, other):
        """Compares both ways to merge with the plainest one; returns how many of them are done."""
        book = one.book
        ends = 0
        for is_union, call in ((True, one.united), (False, one.lessened)):
            pairs = [(naive.tree_of(index.shape.rows), index.content) for index in (one, other)]
            try:
                tree, keys = naive_joins.merged(book, *pairs, is_union)
            except naive.Fails as error:
                self.refused(NoMend, call, other, where=error.place)
                continue
            made = call(other)
            self.assertEqual((made.shape.rows, made.content), (naive.plain_rows(tree), keys))
            self.assertEqual(made.book, book)
            self.assertEqual((made.shared(one), made.shared(other)), (0, 0))
            self.refused(NothingToUndo, made.elder, many=1)
            told = {*one.content, *other.content} if is_union else {*one.content} - {*other.content}
            self.assertEqual(made.content, tuple(sorted(told)))
            ends += 1
        return ends

    def test_good_books(self):
        for number, book in enumerate((GLUE, mirrored_book(GLUE))):
            dice = random.Random(number)
            for many, more in itertools.product((0, 1, 2, 5, 12, 40), repeat=2):
                one = Index(book, tuple(dice.sample(range(60), many)))
                other = Index(book, tuple(dice.sample(range(60), more)))
                self.assertEqual(self.check_merged(one, other), 2)

    def test_red_trees(self):
        dice = random.Random(3)
        done = 0
        for many, more in itertools.product((0, 1, 3, 8, 30), repeat=2):
            one = Index(RED_JOINS, tuple(dice.sample(range(60), many)))
            other = Index(RED_JOINS, tuple(dice.sample(range(0, 60, 7) if more < 9 else range(60), more)))
            ends = self.check_merged(one, other)
            self.assertEqual(one.united(other).shape.size, len({*one.content, *other.content}))
            done += ends
        self.assertGreater(done, 30)

    def test_nodes_with_four_children(self):
        dice = random.Random(9)
        for keys in range(3, 14):
            for shape in itertools.islice(each_right(FOURS.scheme, keys), 12):
                one = Index.from_shape(FOURS, shape, tuple(sorted(dice.sample(range(40), keys))))
                other = Index(FOURS, tuple(dice.sample(range(40), dice.randrange(12))))
                for pair in ((one, other), (other, one), (one, one)):
                    self.assertGreater(self.check_merged(*pair), 0)

    def test_small_trees(self):
        for book in (GLUE, ROOT):
            shapes = shapes_until(book.scheme, 4, 12)[0]
            done = 0
            for one, other in itertools.product(shapes, repeat=2):
                for first in range(-1, one.size + 1):
                    done += self.check_merged(
                        Index.from_shape(book, one, tuple(range(0, 2 * one.size, 2))),
                        Index.from_shape(book, other, tuple(range(2 * first, 2 * first + 3 * other.size, 3))))
            self.assertGreater(done, 100)

    def test_books_by_chance(self):
        done = 0
        for book in [*with_ranks(range(1230, 1245)), *[chance.joining_book(number) for number in range(12)],
                     *[GLUE.without(drawing.line) for drawing in GLUE.drawings[1:]]]:
            for one, other in itertools.product(shapes_until(book.scheme, 4, 6)[0], repeat=2):
                done += self.check_merged(
                    Index.from_shape(book, one, tuple(range(0, 2 * one.size, 2))),
                    Index.from_shape(book, other, tuple(range(1, 1 + other.size))))
        self.assertGreater(done, 500)

    def test_with_itself_and_with_the_empty_one(self):
        index, empty = Index(GLUE, tuple(range(30))), Index(GLUE)
        self.assertEqual(index.united(index).content, index.content)
        self.assertEqual(index.lessened(index), empty)
        for made in (index.united(empty), empty.united(index), index.lessened(empty)):
            self.assertEqual((made == index, made.shared(index)), (True, 0))
        for made in (empty.united(empty), empty.lessened(index), empty.lessened(empty)):
            self.assertEqual((made == empty, made.content), (True, ()))
        self.refused(NothingToUndo, index.united(empty).elder, many=1)

    def test_with_one_that_shares_nodes(self):
        index = Index(GLUE, tuple(range(0, 60, 3)))
        more = index.with_key(4).with_key(40)
        self.assertGreater(more.shared(index), 5)
        self.assertEqual(self.check_merged(index, more), 2)
        self.assertEqual(self.check_merged(more, index), 2)
        self.assertEqual(more.lessened(index).content, (4, 40))

    def test_failing(self):
        one, other = Index(TWOTHREE, (1, 2, 3)), Index(TWOTHREE, (7,))
        self.refused(NoMend, one.united, other, where=("join", "t", "t", 0))
        self.assertEqual(Index(TWOTHREE).united(other), other)
        self.assertEqual(Index(TWOTHREE, (1,)).lessened(Index(TWOTHREE, (1,))).content, ())
        # The cut of the last key to the left fails.
        less = GLUE.without("cut two(. x) to .")
        self.check_merged(Index(less, (1, 3)), Index(less, (3,)))
        self.assertEqual(self.check_merged(Index(less, (1, 2, 3)), Index(less, (2,))), 1)

    def test_high_chains(self):
        book = LEVEL.with_drawing("join t t +0 to two(. .)")
        one, other = Index(book, tuple(range(0, 600, 3))), Index(book, tuple(range(1, 600, 3)))
        self.assertEqual(one.united(other).content, tuple(sorted((*one.content, *other.content))))
        self.assertEqual(one.lessened(one).content, ())
        self.assertEqual(one.lessened(other).content, one.content)


class Asked(Checked):

    def test_empty(self):
        self.check(EMPTY, [])
        self.assertEqual((str(EMPTY), EMPTY.shape.rows, EMPTY.book), ("index of 0 keys, height 0", (), TWOTHREE))
        self.assertEqual(Index(TWOTHREE, ()), EMPTY)
        self.refused(AbsentKey, EMPTY.without_key, 3, key=3)
        self.refused(InvalidNumber, lambda: EMPTY[0], value=0)
        self.assertEqual((EMPTY.less(3), EMPTY.under(3), EMPTY.over(3), list(EMPTY.between(None, None))),
                         (0, None, None, []))
        self.assertEqual((EMPTY.shared(EMPTY), EMPTY.elder(many=0)), (0, EMPTY))
        self.refused(NothingToUndo, EMPTY.elder, many=1)

    def test_a_key_that_is_there(self):
        index = Index(TWOTHREE, (3, 1, 2))
        for key in (1, 2, 3):
            same = index.with_key(key)
            self.assertEqual((same, same.shared(index), same.elder()), (index, nodes_of(index.shape), index.elder()))
        self.assertEqual(index.with_key(1).elder(many=3), EMPTY)

    def test_first_last_and_absent_keys(self):
        index = Index(TWOTHREE, tuple(range(0, 20, 2)))
        self.assertEqual(index.without_key(0).content, tuple(range(2, 20, 2)))
        self.assertEqual(index.without_key(18).content, tuple(range(0, 18, 2)))
        for key in (-1, 1, 19, LONGEST):
            self.refused(AbsentKey, index.without_key, key, key=key)
        self.assertEqual(index.with_key(-1)[0], -1)
        self.assertEqual(index.with_key(19)[10], 19)

    def test_elders(self):
        index = Index(TWOTHREE, (4, 2, 9)).without_key(2).with_key(7)
        self.assertEqual([index.elder(many=many).content for many in range(6)],
                         [(4, 7, 9), (4, 9), (2, 4, 9), (2, 4), (4,), ()])
        self.assertEqual(index.elder(), index.elder(many=1))
        for many in (6, 7, 10 ** 59):
            self.refused(NothingToUndo, lambda: index.elder(many=many), many=many)
        for many in odd_values():
            if not (is_key(many) and many >= 0):
                self.refused(InvalidNumber, lambda: index.elder(many=many), value=many)
        self.assertRaises(TypeError, index.elder, 1)
        planted = Index.from_shape(TWOTHREE, THREE, (1, 2))
        self.refused(NothingToUndo, planted.elder, many=1)
        self.assertEqual(planted.with_key(5).elder(), planted)
        self.assertEqual(planted.with_key(5).elder().shared(planted), 1)

    def test_from_shape(self):
        shape = Shape(T, (("two", (None, None)), ("three", (None, None, None)), ("three", (0, 1, 0))))
        index = self.check(Index.from_shape(TWOTHREE, shape, (1, 2, 4, 8, 16, 32)), [1, 2, 4, 8, 16, 32])
        self.assertEqual((index.shape, index.shared(Index.from_shape(TWOTHREE, shape, index.content))), (shape, 0))
        self.assertEqual(Index.from_shape(TWOTHREE, Shape(T, ()), ()), EMPTY)
        high = Shape(T, tower(5))
        index = self.check(Index.from_shape(TWOTHREE, high, tuple(range(high.size))), range(high.size))
        self.assertEqual(index.shape, high)

    def test_from_wrong_shapes(self):
        call = Index.from_shape
        lean = Shape(T, (("two", (None, None)), ("two", (0, None))))
        for value in odd_values():
            if not isinstance(value, Book):
                self.refused(InvalidBook, call, value, THREE, (1, 2))
                self.refused(InvalidBook, call, value, None, None)
            if not (isinstance(value, Shape) and value.scheme == T):
                self.refused(InvalidShape, call, TWOTHREE, value, (1, 2))
                self.refused(InvalidShape, call, TWOTHREE, value, None)
            self.refused(InvalidOperation, call, TWOTHREE, THREE, value)
        for shape in (lean, Shape(HEIGHTS, ()), Shape(REDS.scheme, (("red", (None, None)),))):
            self.refused(InvalidShape, call, TWOTHREE, shape, (1, 2, 3))
        for content in ((1,), (1, 2, 3), (2, 1), (1, 1), [1, 2], (1, True), (False, 1), (1, TOO_LONG), (1, None), (),
                None):
            self.refused(InvalidOperation, call, TWOTHREE, THREE, content)
        self.refused(InvalidOperation, call, TWOTHREE, Shape(T, tower(4000)), (1, 2))

    def test_wrong_content(self):
        for value in odd_values():
            if not isinstance(value, Book):
                self.refused(InvalidBook, Index, value)
                self.refused(InvalidBook, Index, value, None)
            fine = isinstance(value, tuple) and all(map(is_key, value)) and len(set(value)) == len(value)
            if not fine:
                self.refused(InvalidOperation, Index, TWOTHREE, value)
        for content in ((1, 1), (1, 2, 1), [1], (True,), (1, True), (None,), (TOO_LONG,), ("1",), {1: 1}):
            self.refused(InvalidOperation, Index, LESS, content)

    def test_puts_that_fail(self):
        # The third key goes to the last gap of a node with two keys.
        self.refused(NoMend, Index, LESS, (1, 2, 3), where=("mend", "three", 2, 1, "two(. .)"))
        index = Index(LESS, (1, 2))
        self.refused(NoMend, index.with_key, 3, where=("mend", "three", 2, 1, "two(. .)"))
        self.assertEqual(index.with_key(0).content, (0, 1, 2))
        self.assertEqual((index.content, index.elder().content), ((1, 2), (1,)))
        less = TWOTHREE.without("cut three(. . x) to two(. .)")
        self.refused(NoMend, Index(less, (1, 2)).without_key, 2, where=("cut", "three", 2))

    def test_wrong_keys(self):
        index = Index(TWOTHREE, (1, 2, 3))
        for value in odd_values():
            if not is_key(value):
                for call in (index.less, index.under, index.over, index.with_key, index.without_key):
                    self.refused(InvalidOperation, call, value)
                self.assertIs(value in index, False)
                if value is not None:
                    self.refused(InvalidOperation, lambda: next(index.between(value, None)))
                    self.refused(InvalidOperation, lambda: next(index.between(None, value)))
                    self.refused(InvalidOperation, lambda: next(index.between(5, value)))
            if not (is_key(value) and 0 <= value < 3):
                self.refused(InvalidNumber, lambda: index[value], value=value)
            if not isinstance(value, Index):
                for call in (index.united, index.lessened, index.shared):
                    self.refused(InvalidOperation, call, value)
        for value in (-1, 3, True, slice(0, 2)):
            self.assertRaises(InvalidNumber, lambda: index[value])
        for call in (index.united, index.lessened):
            self.refused(InvalidOperation, call, Index(GLUE, (1, 2)))
        self.assertEqual(index.shared(Index(GLUE, (1, 2))), 0)

    def test_between(self):
        index = Index(TWOTHREE, (1, 3, 5, 7))
        self.assertEqual([list(index.between(*pair)) for pair in ((3, 7), (2, 8), (7, 3), (3, 3), (None, 5), (8,
                None))],
                         [[3, 5], [3, 5, 7], [], [], [1, 3], []])
        # A wrong bound is told when the first key is asked for.
        bounds = index.between("a", None)
        self.assertRaises(InvalidOperation, next, bounds)
        keys = index.between(None, None)
        self.assertEqual([next(keys), next(keys)], [1, 3])

    def test_equal(self):
        index = Index(GLUE, (1, 2, 3, 4))
        self.assertIs(index == Index(Book.from_lines(*GLUE.lines), (1, 2, 3, 4)), True)
        self.assertIs(index == Index(GLUE, (1, 2, 3, 4)), True)
        self.assertIs(index != Index(GLUE, (1, 2, 3, 4)), False)
        shape = Shape(T, (("three", (None, None, None)), ("two", (None, None)), ("two", (0, 1))))
        other = Index.from_shape(GLUE, shape, (1, 2, 3, 4))
        self.assertEqual((other.shape == index.shape, other == index), (False, False))
        # Both have one form alone and the same keys.
        falls, rises = Index(LEVEL, (2, 1)), Index(LEVEL, (1, 2))
        self.assertEqual((falls.content, falls == rises, rises == falls), (rises.content, False, False))
        self.assertIs(Index(LEVEL, (1, 2, 3)) == Index(LEVEL, (1, 3, 2)), False)
        self.assertIs(index == Index(TWOTHREE, (1, 2, 3, 4)), False)
        self.assertIs(index == Index(GLUE, (1, 2, 3, 5)), False)
        for value in [*odd_values(), index.content, index.shape]:
            self.assertIs(index == value, False)
            self.assertIs(index != value, True)

    def test_nothing_changes(self):
        index = Index(GLUE, (5, 1, 3))
        kept = (index.content, index.shape, index.elder())
        index.with_key(4)
        index.without_key(3)
        index.united(Index(GLUE, (7, 8)))
        index.lessened(Index(GLUE, (1,)))
        self.assertRaises(AbsentKey, index.without_key, 9)
        self.assertEqual((index.content, index.shape, index.elder()), kept)
        self.assertEqual(index.with_key(4), index.with_key(4))

    def test_more_rows_than_shapes_can_have(self):
        # Each node has the next one as its last child.
        rows = tuple(("two", (None, None if row == 0 else row - 1)) for row in range(4000))
        chain = Index.from_shape(LEVEL, Shape(LEVEL.scheme, rows), tuple(range(4000))).with_key(4000)
        self.assertEqual((len(chain), chain[4000], str(chain)), (4001, 4000, "index of 4001 keys, height 4001"))
        self.refused(TooMany, lambda: chain.shape, limit=4000)
        self.assertEqual(chain.elder().shape.height, 4000)
