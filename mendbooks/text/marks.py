"""The words of texts: numbers, deeds, places, pledges and rows of tables."""

from mendbooks.base.pictures import split_blanks
from mendbooks.base.words import MAX_DIGITS, is_count, is_name
from mendbooks.books.drawings import MAX_DIFFERENCE
from mendbooks.books.lines import difference_of
from mendbooks.books.sides import picture_of
from mendbooks.decide.rows import whole_row


def number_in(word):
    """The integer of at least 0 that a word tells; None for other words."""
    if not word.isascii() or not word.isdigit() or (word.startswith("0") and word != "0"):
        return None
    # What is too long to be valid need not be read to its end: it stays too long.
    return int(word[:MAX_DIGITS + 1])


def count_in(word):
    """The integer of at least 0 and at most sixty digits that a word tells; None for other words."""
    number = number_in(word)
    return number if is_count(number) else None


def is_hand(value):
    """Whether the value is a name or the text of a picture with a name."""
    if is_name(value):
        return True
    picture = picture_of(value)
    return picture is not None and bool(picture)


def place_line(place):
    """The line of a place."""
    kind, *told = place
    if kind == "mend":
        name, index, difference, hand = told
        told = [name, index, f"{difference:+d}", hand]
    return " ".join([kind, *[str(word) for word in told]])


def row_line(row):
    """The line of a row of a table."""
    name, index, difference, hand, rank = row
    return f"{name} {index} {difference:+d} {hand} {rank}" if name else f"top {hand}"


def row_in(line):
    """The row of a table that a line tells; None for other lines."""
    words = split_blanks(line)
    if words is None:
        return None
    if len(words) == 2:
        return whole_row(words[1]) if words[0] == "top" and is_hand(words[1]) else None
    if len(words) != 5 or not is_name(words[0]) or words[1] not in ("0", "1", "2", "3") or not is_hand(words[3]):
        return None
    difference = difference_of(words[2], MAX_DIFFERENCE)
    rank = count_in(words[4])
    if difference is None or rank is None:
        return None
    return (words[0], int(words[1]), difference, words[3], rank)
