"""The lines of drawings as texts: their words, their marks, and the same lines mirrored or with other names."""

from mendbooks.base.pictures import HOLE, MAX_LEVELS, depth_of, split_blanks, split_text

# How many words the line of each kind has.
_WORDS = {"put": 2, "cut": 4, "mend": 4, "top": 4, "join": 6}
_LETTERS = "abcdefghijklmnopqrstuvwxyz"


def parts_of(line):
    """The kind of a line, the list of the words of its first picture, and its second one; None for other values."""
    words = split_blanks(line) if isinstance(line, str) else None
    if words is None or _WORDS.get(words[0]) != len(words):
        return None
    if words[0] == "put":
        return "put", [], f"{words[1]}({HOLE} {HOLE})"
    return (words[0], words[1:-2], words[-1]) if words[-2] == "to" else None


def node_text(called, texts):
    """The text of a name with these texts as its children."""
    inner = " ".join(texts)
    return f"{called}({inner})"


def difference_of(text, most):
    """The difference that a text like `+1` tells, at most so great; None for other texts."""
    for difference in range(-most, most + 1):
        if text == f"{difference:+d}":
            return difference
    return None


def without_marks(text):
    """The text of a picture without marks, and that of its marked names; None if the marks cannot stand so."""
    # The depth bounds how often this function calls itself.
    return _without_marks(text) if depth_of(text) <= MAX_LEVELS else None


def _without_marks(text):
    if text == HOLE:
        return HOLE, HOLE
    top = split_text(text)
    if top is None:
        return None
    parts = [_without_marks(part) for part in top[1]]
    if None in parts:
        return None
    called = top[0].removeprefix("^")
    hands = [part[1] for part in parts]
    plain = node_text(called, [part[0] for part in parts])
    if called != top[0]:
        return plain, node_text(called, hands)
    # A mark stands only below another one.
    return (plain, HOLE) if all([hand == HOLE for hand in hands]) else None


def mirrored_line(line):
    """The line in which all children, and both sides of a join, stand in the opposite order."""
    words = [_mirrored_word(word) for word in split_blanks(line)]
    if words[0] == "join":
        kind, left, right, difference, *rest = words
        words = [kind, right, left, f"{-int(difference):+d}", *rest]
    return " ".join(words)


def _mirrored_word(word):
    top = split_text(word)
    if top is None:
        return word
    return node_text(top[0], [_mirrored_word(part) for part in top[1][::-1]])


def renamed_line(line, sorts, forms):
    """The line in which each sort and each form has the name that the two dicts tell."""
    words = split_blanks(line)
    if words[0] == "put":
        return f"put {_renamed(words[1], forms)}"
    # Only a side of a join is a word that is a sort.
    many = 3 if words[0] == "join" else 1
    sides = [_renamed_side(word, sorts, forms) for word in words[1:many]]
    rest = [_renamed_picture(word, sorts, forms) for word in words[many:]]
    return " ".join([words[0], *sides, *rest])


def _renamed_side(text, sorts, forms):
    return sorts[text] if text in sorts else _renamed_picture(text, sorts, forms)


def _renamed_picture(text, sorts, forms):
    """The renamed text of a picture, with all that can stand in it; every other word is left as it is."""
    top = split_text(text)
    if top is not None:
        return node_text(_renamed(top[0], forms), [_renamed_picture(part, sorts, forms) for part in top[1]])
    return _renamed(text, sorts) if text.startswith("!") else text


def _renamed(text, names):
    """The text with another name at its end."""
    ahead = text.rstrip(_LETTERS)
    return ahead + names[text.removeprefix(ahead)]
