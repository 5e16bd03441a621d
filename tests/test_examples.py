"""The examples of the document, as they stand there."""

import unittest

from mendbooks.base.forms import Form, Scheme, mirrored_scheme
from mendbooks.base.pictures import Picture, are_apart, spot_over, spots_of
from mendbooks.base.words import is_count, is_integer, is_name, is_names
from mendbooks.books.books import choice, mirrored_book
from mendbooks.books.drawings import Drawing, clash
from mendbooks.decide.joins import is_join_paper, join_paper, unraised
from mendbooks.decide.least import is_good, is_paper, least_bad, paper
from mendbooks.decide.tables import Table, beside, is_beside
from mendbooks.decide.uses import lacking, least_use, long_deed, most_drawings, spared, used
from mendbooks.errors import Refused
from mendbooks.mend.deeds import cut, failing_place, fresh_nodes, put, steps
from mendbooks.mend.joins import join_shapes, join_steps, split_shape
from mendbooks.ranks.counts import count_right, count_sound, each_right, number_of, right_at
from mendbooks.ranks.heights import greatest_height, least_height, least_keys, most_keys, tall_tree
from mendbooks.ranks.ranks import Ranks
from mendbooks.text.shell import Shell
from mendbooks.text.texts import read_paper, read_rows, write_book, write_paper, write_rows
from mendbooks.trees.shapes import Shape
from mendbooks.use.bench import Bench
from mendbooks.use.index import Index
from tests.books import HEIGHTS, TWOTHREE

LESS = TWOTHREE.without("mend three(. . !+1:two(. .)) to ^two(two(. .) two(. .))")
GLUE = TWOTHREE.with_drawing("join t t +0 to ^two(. .)")
THREE = Shape(TWOTHREE.scheme, (("three", (None, None, None)),))
FULL = Shape(TWOTHREE.scheme, (("two", (None, None)), ("two", (0, 0))))


class Examples(unittest.TestCase):

    def test_words(self):
        self.assertEqual([is_integer(-7), is_count(True), is_name("Black"), is_names(("a", "b")), is_names(("b", "a"))],
                         [True, False, False, True, False])

    def test_forms(self):
        self.assertEqual(
            [str(HEIGHTS), HEIGHTS.sorts, HEIGHTS["left"].children, str(HEIGHTS["left"]), HEIGHTS.parents("t", 2)],
            ["scheme of 3 forms, 1 sorts", ("t",), (("t", 1), ("t", 2)), "form left t t1 t2",
             (("left", 1), ("right", 0))])
        self.assertIs(mirrored_scheme(HEIGHTS)["left"] == Form("left", "t", (("t", 2), ("t", 1))), True)

    def test_pictures(self):
        picture = Picture("left(left(. .) .)")
        self.assertEqual(
            [picture.holes, picture.levels, list(picture.paths()), picture[(0,)].text, picture.mirrored().text],
            [3, 2, [(), (0,)], "left(. .)", "left(. left(. .))"])
        self.assertEqual(
            [spots_of(HEIGHTS, picture), spot_over(HEIGHTS, Picture("even(. even(. .))"), spots_of(HEIGHTS, picture))],
            [(("t", -2), ("t", -3), ("t", -2)), None])
        self.assertEqual(
            [spot_over(HEIGHTS, Picture("even(. even(. .))"), (("t", -1), ("t", -2), ("t", -2))),
             are_apart(picture, Picture("left(even(. .) .)"))],
            [("t", 0), True])

    def test_drawings(self):
        scheme = TWOTHREE.scheme
        mend = Drawing(scheme, "mend two(!-1:t three(. . .)) to two(two(. .) two(. .))")
        self.assertEqual([mend.place, mend.result, mend.is_odd, mend.hand, mend.opened],
                         [("mend", "two", 0, -1, "t"), ("t", 0), False, "t", {(1,): "three"}])
        part = Drawing(scheme, "mend three(!+1:two(. .) . .) to ^two(two(. .) two(. .))")
        self.assertEqual([part.place, part.result, part.hand, len(part), part.mirrored(scheme).line],
                         [("mend", "three", 0, 1, "two(. .)"), ("t", 1), "two(. .)", 3,
                          "mend three(. . !+1:two(. .)) to ^two(two(. .) two(. .))"])
        self.assertEqual([clash(mend, Drawing(scheme, "mend two(!-1:t two(. .)) to three(. . .)")), clash(mend, mend)],
                         [False, True])

    def test_books(self):
        place = ("mend", "two", 0, -1, "t")
        self.assertEqual(
            [str(TWOTHREE), TWOTHREE.put_drawing.line, len(TWOTHREE.at(place)), "put ^two" in TWOTHREE,
             TWOTHREE.places[0]],
            ["book of 2 forms, 21 drawings", "put ^two", 2, True, ("cut", "three", 0)])
        self.assertEqual([choice(TWOTHREE, place, {(1,): "two"}).result, choice(TWOTHREE, place, {}),
                          mirrored_book(TWOTHREE) == TWOTHREE], [("t", -1), None, False])

    def test_shapes(self):
        leaf, scheme = Shape(HEIGHTS, (("even", (None, None)),)), HEIGHTS
        lean = Shape.node(scheme, "left", (leaf, Shape(scheme, ())))
        both = Shape.node(scheme, "even", (lean, lean))
        self.assertEqual([both.rows, str(both), both.spot, both.is_right, both.path_to(4)],
                         [(("even", (None, None)), ("left", (0, None)), ("even", (1, 1))),
                          "shape with 5 keys, height 3",
                          ("t", 3), True, (1, 0, 1)])
        self.assertEqual([both.name_at((1, 0)), Shape.node(scheme, "even", (lean, leaf)).fault,
                          both.replaced((0,), leaf).spot], ["even", 2, None])

    def test_ranks(self):
        ranks = Ranks(HEIGHTS)
        self.assertEqual(
            [str(ranks), ranks.base_of(100), ranks.forms_at(1), ranks.forms_at(2),
             [ranks.least("t", rank) for rank in range(6)], ranks.useful_at(7)],
            ["ranks from 0 on by 1", 12, ("even",), ("even", "left", "right"), [0, 1, 2, 4, 7, 12], ("t",)])
        thirds = Ranks(Scheme.from_lines("bare a", "tops a", "form x b a3 a3", "form y a b3 b3"))
        self.assertEqual(
            [thirds.turn, thirds.period, thirds.sorts_at(3), thirds.sorts_at(4), thirds.sorts_at(6),
             thirds.around("b", 3),
             thirds.least("b", 9), thirds.choices_at("a", 0)], [0, 6, ("b",), (), ("a",), 2, 7, ("",)])

    def test_counts(self):
        self.assertEqual([[count_right(HEIGHTS, keys) for keys in range(8)],
                          [count_right(TWOTHREE.scheme, keys) for keys in range(8)], count_sound(HEIGHTS, "t", 3, 4)],
                         [[1, 1, 2, 1, 4, 6, 4, 17], [1, 1, 1, 1, 2, 2, 3, 4], 4])
        self.assertEqual([shape.rows for shape in each_right(HEIGHTS, 2)],
                         [(("even", (None, None)), ("left", (0, None))),
                          (("even", (None, None)), ("right", (None, 0)))])
        self.assertEqual(number_of(right_at(HEIGHTS, 7, 11)), 11)

    def test_heights(self):
        self.assertEqual([[least_keys(HEIGHTS, height) for height in range(6)],
                          [most_keys(HEIGHTS, height) for height in range(4)], greatest_height(HEIGHTS, 10 ** 12)],
                         [[0, 1, 2, 4, 7, 12], [0, 1, 3, 7], 57])
        self.assertEqual([least_height(TWOTHREE.scheme, 10 ** 6), tall_tree(HEIGHTS, 5).height], [13, 3])

    def test_deeds(self):
        scheme = TWOTHREE.scheme
        three = Shape(scheme, (("three", (None, None, None)),))
        self.assertEqual(
            [put(TWOTHREE, three, 1).rows, steps(TWOTHREE, three, ("put", 1)), cut(TWOTHREE, three, 2).rows],
            [(("two", (None, None)), ("two", (0, 0))),
             (((1,), "put ^two"), ((), "mend three(. !+1:two(. .) .) to ^two(two(. .) two(. .))")),
             (("two", (None, None)),)])
        full = Shape(scheme, (("two", (None, None)), ("two", (0, 0))))
        self.assertEqual(
            [cut(TWOTHREE, full, 0).rows, failing_place(TWOTHREE.without("cut two(x .) to ."), full, ("cut", 2)),
             fresh_nodes(TWOTHREE, full, ("cut", 3))],
            [(("three", (None, None, None)),), ("cut", "two", 0), 1])

    def test_tables(self):
        table = Table(TWOTHREE, "put")
        less = TWOTHREE.without("mend three(. . !+1:two(. .)) to ^two(two(. .) two(. .))")
        self.assertEqual([str(table), table.is_good, table.starts, len(Table(TWOTHREE, "cut")),
                          len(Table(less, "put").open_rows)], ["table of 61 rows, 0 open", True, (("put",),), 56, 12])
        self.assertEqual([table.rows[0], len(table.way(("two", 0, 1, "two(. .)", 2))),
                          table.leads(("two", 1, 1, "two(. .)", 7))],
                         [("", 0, 0, "two(. .)", 0), 3, {"mend two(. !+1:two(. .)) to three(. . .)": ()}])
        self.assertEqual([is_beside(less, ("three", 2, 1, "two(. .)", 4), {(0,): "two"}),
                          beside(less, ("three", 0, 1, "two(. .)", 4))], [True, None])

    def test_tables_of_joins(self):
        glue = TWOTHREE.with_drawing("join t t +0 to ^two(. .)")
        self.assertEqual([Table(glue, "left").starts[0], len(Table(glue, "left")), Table(glue, "right").is_good],
                         [("join", "t", "t", 0, 0), 25, True])

    def test_papers(self):
        self.assertEqual([paper(TWOTHREE, "cut")[0], least_bad(TWOTHREE, "put"), least_bad(LESS, "put")[0].rows,
                          paper(LESS, "put")[2]], ["good", None, (("three", (None, None, None)),), ("put", 2)])
        self.assertEqual([is_paper(TWOTHREE, "put", ("good", Table(TWOTHREE, "put").rows)),
                          is_paper(TWOTHREE, "put", ("good", ())), is_good(LESS, "cut")], [True, False, True])

    def test_joins_and_splits(self):
        self.assertEqual([join_shapes(GLUE, THREE, FULL).rows, join_steps(GLUE, FULL, Shape(GLUE.scheme, ()))], [
            (("three", (None, None, None)), ("two", (None, None)), ("three", (0, 1, 1))),
            (((1, 1), "join t t +0 to ^two(. .)"), ((1,), "mend two(. !+1:two(. .)) to three(. . .)"))])
        self.assertEqual([[part.size for part in split_shape(GLUE, FULL, 1)],
                          [part.rows for part in split_shape(GLUE, FULL, 0)]],
                         [[1, 1], [(), (("three", (None, None, None)),)]])

    def test_joins_of_all_trees(self):
        self.assertEqual([Table(GLUE, "left").starts[0], len(Table(GLUE, "left")), is_good(GLUE, "right"),
                          unraised(GLUE)], [("join", "t", "t", 0, 0), 25, True, ()])
        told = ("good", Table(GLUE, "left").rows, Table(GLUE, "right").rows)
        self.assertEqual([join_paper(TWOTHREE), is_join_paper(GLUE, told)], [("bad", (), ()), True])

    def test_uses(self):
        self.assertEqual([most_drawings(TWOTHREE, "put"), len(used(TWOTHREE, "put")), len(used(TWOTHREE, "cut")),
                          lacking(LESS, "put")], [None, 6, 15, (("mend", "three", 2, 1, "two(. .)"),)])
        shape, deed = least_use(TWOTHREE, "cut", "cut three(. x .) to two(. .)")
        self.assertEqual([shape.rows, deed, spared(GLUE) == GLUE,
                          len(steps(TWOTHREE, *long_deed(TWOTHREE, "put", 5))) > 4],
                         [(("three", (None, None, None)),), ("cut", 1), True, True])

    def test_indexes(self):
        index = Index(GLUE, (5, 1, 3))
        self.assertEqual([index.content, str(index), index.less(4), index.under(3), list(index.between(2, None)),
                          index.shared(index.elder()), index.elder(many=3).content],
                         [(1, 3, 5), "index of 3 keys, height 2", 2, 1, [3, 5], 0, ()])
        self.assertEqual([index.with_key(9).shared(index), index.without_key(3).shape.rows,
                          index.united(Index(GLUE, (2, 3))).content, index.lessened(index).shape.rows],
                         [1, (("three", (None, None, None)),), (1, 2, 3, 5), ()])

    def test_a_bench(self):
        bench, line = Bench(TWOTHREE), "cut three(. x .) to two(. .)"
        self.assertEqual([bench.demand(("good", "put")), bench.erase(line), bench.undo(), bench.redo(), str(bench)],
                         [(), (("cut", False),), (("cut", True),), (("cut", False),),
                          "bench with 20 drawings, 1 pledges"])
        self.assertRaises(Refused, bench.erase, "mend two(. !+1:two(. .)) to three(. . .)")
        self.assertEqual([bench.during(lambda same: same.draw(line)), line in bench, ("good", "put") in bench],
                         [(("cut", True),), False, True])

    def test_texts_and_a_shell(self):
        self.assertEqual([write_rows(FULL.rows), read_rows("-"), write_paper(paper(LESS, "put")),
                          read_paper("good\ntop two(. .)\ntwo 0 +1 two(. .) 1")],
                         ["two . .\ntwo 0 0", (), "bad put 2\nthree . . .",
                          ("good", (("", 0, 0, "two(. .)", 0), ("two", 0, 1, "two(. .)", 1)))])
        shell = Shell(write_book(LESS))
        self.assertEqual([shell("good put"), shell("lack put"), shell("rows cut"), shell("do put 2 in three . . ."),
                          shell("demand good put"), shell("height 1000000")],
                         ["no", "mend three 2 +1 two(. .)", "56 rows, 0 open", "fails mend three 2 +1 two(. .)",
                          "refused good put", "19"])
        self.assertEqual([shell("draw mend three(. . !+1:two(. .)) to ^two(two(. .) two(. .))"),
                          shell("demand good put"), shell("fly"), len(shell)], ["put good", "nothing", "what", 6])
