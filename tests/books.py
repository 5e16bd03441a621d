"""Books that several tests use."""

from mendbooks.base.forms import Scheme
from mendbooks.books.books import Book

TWOTHREE = Book.from_lines(
    "bare t", "tops t", "form two t t1 t1", "form three t t1 t1 t1", "put ^two",
    "mend two(!+1:two(. .) .) to three(. . .)", "mend two(. !+1:two(. .)) to three(. . .)",
    "mend three(!+1:two(. .) . .) to ^two(two(. .) two(. .))",
    "mend three(. !+1:two(. .) .) to ^two(two(. .) two(. .))",
    "mend three(. . !+1:two(. .)) to ^two(two(. .) two(. .))",
    "cut two(x .) to .", "cut two(. x) to .", "cut three(x . .) to two(. .)", "cut three(. x .) to two(. .)",
    "cut three(. . x) to two(. .)", "mend two(!-1:t two(. .)) to three(. . .)",
    "mend two(!-1:t three(. . .)) to two(two(. .) two(. .))", "mend two(two(. .) !-1:t) to three(. . .)",
    "mend two(three(. . .) !-1:t) to two(two(. .) two(. .))", "mend three(!-1:t two(. .) .) to two(three(. . .) .)",
    "mend three(!-1:t three(. . .) .) to three(two(. .) two(. .) .)",
    "mend three(two(. .) !-1:t .) to two(three(. . .) .)",
    "mend three(three(. . .) !-1:t .) to three(two(. .) two(. .) .)",
    "mend three(. two(. .) !-1:t) to two(. three(. . .))",
    "mend three(. three(. . .) !-1:t) to three(. two(. .) two(. .))")
GLUE = TWOTHREE.with_drawing("join t t +0 to ^two(. .)")

# Nodes with two to four children, for puts and for joins.
FOURS = Book.from_lines(
    "bare t", "tops t", "form two t t1 t1", "form three t t1 t1 t1", "form four t t1 t1 t1 t1", "put ^two",
    "join t t +0 to ^two(. .)", "mend two(!+1:two(. .) .) to three(. . .)", "mend two(. !+1:two(. .)) to three(. . .)",
    "mend three(!+1:two(. .) . .) to four(. . . .)", "mend three(. !+1:two(. .) .) to four(. . . .)",
    "mend three(. . !+1:two(. .)) to four(. . . .)",
    "mend four(!+1:two(. .) . . .) to ^two(two(. .) three(. . .))",
    "mend four(. !+1:two(. .) . .) to ^two(two(. .) three(. . .))",
    "mend four(. . !+1:two(. .) .) to ^two(three(. . .) two(. .))",
    "mend four(. . . !+1:two(. .)) to ^two(three(. . .) two(. .))")

# Red and black nodes: `l` is the sort of a red node with a red child, which no right tree has.
REDS_LINES = (
    "bare b", "tops b", "form bb b b1 b1", "form br b b1 r1", "form rb b r1 b1", "form rr b r1 r1",
    "form red r b0 b0", "form lred l r0 b0", "form rred l b0 r0", "put ^red", "top red(. .) to bb(. .)",
    "mend bb(!+0:red(. .) .) to rb(red(. .) .)", "mend bb(. !+0:red(. .)) to br(. red(. .))",
    "mend br(!+0:red(. .) .) to rr(red(. .) .)", "mend rb(. !+0:red(. .)) to rr(. red(. .))",
    "mend red(!+0:red(. .) .) to ^lred(^red(. .) .)", "mend red(. !+0:red(. .)) to ^rred(. ^red(. .))",
    "mend rb(!+0:lred(red(. .) .) .) to rr(red(. .) red(. .))",
    "mend rb(!+0:rred(. red(. .)) .) to rr(red(. .) red(. .))",
    "mend br(. !+0:lred(red(. .) .)) to rr(red(. .) red(. .))",
    "mend br(. !+0:rred(. red(. .))) to rr(red(. .) red(. .))",
    "mend rr(!+0:lred(red(. .) .) red(. .)) to ^red(rb(red(. .) .) bb(. .))",
    "mend rr(!+0:rred(. red(. .)) red(. .)) to ^red(br(. red(. .)) bb(. .))",
    "mend rr(red(. .) !+0:lred(red(. .) .)) to ^red(bb(. .) rb(red(. .) .))",
    "mend rr(red(. .) !+0:rred(. red(. .))) to ^red(bb(. .) br(. red(. .)))")
REDS = Book.from_lines(*REDS_LINES)

# The place of a join can be red: then one red node stands below another one, as behind a put.
RED_JOINS = Book.from_lines(*REDS_LINES, "join b b +0 to ^red(. .)", "join red(. .) b +0 to ^rred(. ^red(. .))",
                            "join b red(. .) +0 to ^lred(^red(. .) .)")

HEIGHTS = Scheme.from_lines("bare t", "tops t", "form even t t1 t1", "form left t t1 t2", "form right t t2 t1")


def balanced_book():
    """The puts of HEIGHTS: a node that has become higher tells its form, and that of its higher child."""
    lines = ["put ^even"]
    for low in (None, "even", "left", "right"):
        for hand in ("even(. .)",) if low is None else (f"left({low}(. .) .)", f"right(. {low}(. .))"):
            lines += [f"mend even(!+1:{hand} .) to ^left(^{hand} .)", f"mend even(. !+1:{hand}) to ^right(. ^{hand})",
                      f"mend left(. !+1:{hand}) to even(. {hand})", f"mend right(!+1:{hand} .) to even({hand} .)"]
        if low is not None:
            left, right = INNER[low]
            lines += [f"mend left(!+1:left({low}(. .) .) .) to even({low}(. .) even(. .))",
                      f"mend right(. !+1:right(. {low}(. .))) to even(even(. .) {low}(. .))",
                      f"mend left(!+1:right(. {low}(. .)) .) to even({left}(. .) {right}(. .))",
                      f"mend right(. !+1:left({low}(. .) .)) to even({left}(. .) {right}(. .))"]
    return Book.from_lines(*HEIGHTS.lines, *lines)


# What both halves of an inner grandchild are made part of, by its form.
INNER = {"even": ("even", "even"), "left": ("even", "right"), "right": ("left", "even")}
