"""Schemes and books made by chance, the same ones for the same number."""

import itertools
import random

from mendbooks.base.forms import Form, Scheme
from mendbooks.base.pictures import Picture, spots_of
from mendbooks.books.books import Book
from mendbooks.books.drawings import Drawing, clash
from mendbooks.errors import InvalidDrawing, InvalidPicture, InvalidScheme

NAMES = ("one", "two", "three", "four", "five")


def scheme_of(number, sorts="ab", most=4, steps=(0, 1, 1, 1, 2)):
    """A scheme in which at least one node can stand above empty trees."""
    chance = random.Random(number)
    while True:
        many = chance.randint(2, most)
        forms = [Form(NAMES[k], chance.choice(sorts),
                      tuple((chance.choice(sorts), chance.choice(steps)) for _ in range(chance.choice((2, 2, 3)))))
                 for k in range(many)]
        try:
            scheme = Scheme("a", chance.choice((("a",), ("a", sorts[-1]))) if len(sorts) > 1 else ("a",), tuple(forms))
        except InvalidScheme:
            continue
        if put_lines(scheme):
            return scheme


def put_lines(scheme):
    """The lines of all puts over a scheme."""
    return [line for form in scheme.forms for line in (f"put {form.called}", f"put ^{form.called}")
            if is_line(scheme, line)]


def is_line(scheme, line):
    try:
        Drawing(scheme, line)
    except InvalidDrawing:
        return False
    return True


def held(scheme, spots, levels=3):
    """The texts of all pictures that hold over spots, at most so many levels high, with their own spots."""
    if levels < 0:
        return []
    found = [(".", spots[0])] if len(spots) == 1 else []
    for form in scheme.forms if levels > 0 else ():
        for cuts in itertools.combinations(range(1, len(spots)), len(form) - 1):
            ends = (0, *cuts, len(spots))
            parts = [[(text, level + step) for text, (sort, level) in held(scheme, spots[low:high], levels - 1)
                      if sort == told] for low, high, (told, step) in zip(ends, ends[1:], form.children)]
            for chosen in itertools.product(*parts):
                if len({level for _, level in chosen}) == 1:
                    inner = " ".join(text for text, _ in chosen)
                    found.append((f"{form.called}({inner})", (form.sort_name, chosen[0][1])))
    return found


def marked(chance, text):
    """The text with marks at its top and at some names below marked ones."""
    if text == ".":
        return text
    picture = Picture(text)
    parts = [marked(chance, part.text) if chance.random() < 0.5 else part.text for part in picture.parts]
    return f"^{picture.called}({' '.join(parts)})"


def picture_over(chance, scheme, sort, levels):
    """The text of a sound picture of a sort, or of a hole."""
    names = scheme.of_sort(sort)
    if levels == 0 or not names or chance.random() < 0.6:
        return "."
    form = scheme[chance.choice(names)]
    return f"{form.called}({' '.join(picture_over(chance, scheme, below, levels - 1) for below, _ in form.children)})"


def lines_behind(chance, scheme, ahead, spots):
    """Some lines of drawings with this first picture, whose holes have these spots."""
    found = []
    for text, _ in held(scheme, spots):
        for second in (text, marked(chance, text)):
            line = f"{ahead} to {second}"
            if is_line(scheme, line):
                found.append(line)
    return found


def some_line(chance, scheme, hands):
    """A line of a drawing by chance, None if it comes to nothing."""
    kind = chance.choice(("cut", "mend", "mend", "mend", "join", "top"))
    if kind == "top":
        hand = chance.choice(hands)
        return drawn(chance, scheme, f"top {hand[0]}", hand, 0) if "(" in hand[0] else None
    if kind == "join":
        left, right = chance.choice(hands), chance.choice(hands)
        difference = chance.randint(-2, 2)
        spots = [*spots_at(scheme, left, 0), *spots_at(scheme, right, difference)]
        lines = lines_behind(chance, scheme, f"join {left[0]} {right[0]} {difference:+d}", tuple(spots))
        return chance.choice(lines) if lines else None
    form = chance.choice(scheme.forms)
    odd = chance.randrange(len(form))
    texts, spots = [], []
    for index, (sort, step) in enumerate(form.children):
        if index == odd and kind == "cut":
            texts.append("x")
        elif index == odd:
            hand, difference = chance.choice(hands), chance.choice((-1, -1, 0, 1, 1, 2))
            texts.append(f"!{difference:+d}:{hand[0]}")
            spots += spots_at(scheme, hand, difference - step)
        else:
            texts.append(picture_over(chance, scheme, sort, 2))
            spots += spots_at(scheme, (texts[-1], sort), -step)
    if len(spots) > 6:
        return None
    lines = lines_behind(chance, scheme, f"{kind} {form.called}({' '.join(texts)})", tuple(spots))
    return chance.choice(lines) if lines else None


def spots_at(scheme, hand, level):
    """The spots of the holes of a pair of a text and a sort."""
    text, sort = hand
    if "(" not in text:
        return [(sort, level)]
    return [(name, level + low) for name, low in spots_of(scheme, Picture(text))]


def drawn(chance, scheme, ahead, hand, level):
    lines = lines_behind(chance, scheme, ahead, tuple(spots_at(scheme, hand, level)))
    return chance.choice(lines) if lines else None


def book_of(number, scheme=None, tries=150):
    """A book by chance: its mends take the hands that its drawings make."""
    chance = random.Random(number)
    scheme = scheme or scheme_of(number)
    drawings = [Drawing(scheme, chance.choice(put_lines(scheme)))]
    for _ in range(tries):
        hands = [(drawing.hand, drawing.result[0]) for drawing in drawings] + [(sort, sort) for sort in scheme.sorts]
        line = some_line(chance, scheme, [hand for hand in hands if depth(hand[0]) <= 2])
        if line is not None:
            drawing = Drawing(scheme, line)
            if not any(clash(drawing, other) for other in drawings) and len(drawings) < 40:
                drawings.append(drawing)
    return Book(scheme, tuple(drawings))


def joining_book(number):
    """A book with a join for each difference, and with mends by chance of what the joins leave."""
    chance = random.Random(number)
    steps = ("t1 t1", "t1 t2", "t1 t3", "t2 t1", "t3 t1")
    scheme = Scheme.from_lines("bare t", "tops t", *(f"form {name} t {told}" for name, told in zip(NAMES, steps)))
    book = Book(scheme, (Drawing(scheme, "put ^one"),))
    for difference in range(-2, 3):
        lines = lines_behind(chance, scheme, f"join t t {difference:+d}", (("t", 0), ("t", difference)))
        book = book.with_drawing(chance.choice(lines))
    for _ in range(300):
        made = chance.choice(book.drawings)
        form, odd = chance.choice(scheme.forms), chance.randrange(2)
        # What a join leaves in the right tree is compared with the right side.
        level = made.place[3] if made.kind == "join" and odd == 0 else 0
        difference = made.result[1] - level
        parts = [".", "."]
        parts[odd] = f"!{difference:+d}:{made.hand}"
        spots = [("t", -step) for _, step in form.children]
        spots[odd:odd + 1] = spots_at(scheme, (made.hand, "t"), difference - form.children[odd][1])
        lines = lines_behind(chance, scheme, f"mend {form.called}({' '.join(parts)})", tuple(spots))
        if lines and not book.at(Drawing(scheme, lines[0]).place):
            book = book.with_drawing(chance.choice(lines))
    return book


def depth(text):
    try:
        return Picture(text).levels
    except InvalidPicture:
        return 0
