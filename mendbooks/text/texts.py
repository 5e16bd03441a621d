"""Books, rows of shapes and papers as texts."""

from mendbooks.base.forms import MAX_CHILDREN
from mendbooks.base.words import is_count, is_index, is_integer, is_name
from mendbooks.books.books import Book
from mendbooks.books.drawings import MAX_DIFFERENCE
from mendbooks.errors import InvalidBook, InvalidPaper, InvalidShape, ParseError
from mendbooks.text.marks import count_in, is_hand, number_in, row_in, row_line

_GAP = "."
_NO_ROWS = "-"


def write_book(book):
    """The text of a book."""
    if not isinstance(book, Book):
        raise InvalidBook("only a book has such a text")
    return "\n".join(book.lines)


def read_book(text):
    """The book with this text."""
    lines = _lines_of(text)
    return Book.from_lines(*lines)


def write_rows(rows):
    """The text of the rows of a shape."""
    if not _is_rows(rows):
        raise InvalidShape("rows have a name and two to four indices of earlier rows or None")
    return "\n".join(_row_lines(rows))


def read_rows(text):
    """The rows with this text."""
    return _rows_in(_lines_of(text), 0)


def write_paper(paper):
    """The text of a paper of one kind."""
    if not _is_paper(paper):
        raise InvalidPaper("no paper has this form")
    if paper[0] == "good":
        return "\n".join(["good", *[row_line(row) for row in paper[1]]])
    _, rows, other = paper
    if _is_deed(other):
        return "\n".join([f"bad {other[0]} {other[1]}", *_row_lines(rows)])
    return "\n".join(["bad join", *_row_lines(rows), "with", *_row_lines(other)])


def read_paper(text):
    """The paper with this text."""
    lines = _lines_of(text)
    if lines[0] == "good":
        return ("good", _table_rows_in(lines))
    if lines[0] == "bad join":
        return _bad_join_in(lines)
    deed = _deed_in(lines[0])
    if deed is None:
        raise ParseError(0)
    return ("bad", _rows_in(lines, 1), deed)


def _lines_of(text):
    if not isinstance(text, str):
        raise ParseError(None)
    return text.split("\n")


def _row_lines(rows):
    """The list of the lines of the rows of a shape."""
    if not rows:
        return [_NO_ROWS]
    return [" ".join([name, *[_GAP if row is None else str(row) for row in children]]) for name, children in rows]


def _rows_in(lines, begin):
    """The rows that the lines from this one on tell."""
    told = lines[begin:]
    if not told:
        raise ParseError(len(lines))
    if told == [_NO_ROWS]:
        return ()
    rows = []
    for number, line in enumerate(told):
        name, *words = line.split(" ")
        if not is_name(name) or not 2 <= len(words) <= MAX_CHILDREN:
            raise ParseError(begin + number)
        children = [None if word == _GAP else number_in(word) for word in words]
        if not all([_is_child_word(word, number) for word in words]):
            raise ParseError(begin + number)
        rows.append((name, tuple(children)))
    return tuple(rows)


def _is_child_word(word, many):
    """Whether a word stands for an empty tree or for one of so many earlier rows."""
    return word == _GAP or is_index(number_in(word), many)


def _table_rows_in(lines):
    """The rows of a table behind the first line."""
    rows = []
    for number, line in enumerate(lines):
        if number > 0:
            row = row_in(line)
            if row is None or (rows and row <= rows[-1]):
                raise ParseError(number)
            rows.append(row)
    return tuple(rows)


def _bad_join_in(lines):
    """The bad paper of a join behind the first line."""
    end = lines.index("with") if "with" in lines else len(lines)
    left = _rows_in(lines[:end], 1)
    if end == len(lines):
        raise ParseError(end)
    return ("bad", left, _rows_in(lines, end + 1))


def _deed_in(line):
    """The deed of the first line of a bad paper; None for other lines."""
    words = line.split(" ")
    if len(words) != 3 or words[0] != "bad" or words[1] not in ("put", "cut"):
        return None
    gap = count_in(words[2])
    return None if gap is None else (words[1], gap)


def _is_rows(value):
    """Whether the value is rows of a shape, over any scheme and plain or not."""
    return isinstance(value, tuple) and all([_is_row(row, number) for number, row in enumerate(value)])


def _is_row(value, many):
    """Whether the value is a row behind so many others."""
    if not isinstance(value, tuple) or len(value) != 2 or not is_name(value[0]) or not isinstance(value[1], tuple):
        return False
    if not 2 <= len(value[1]) <= MAX_CHILDREN:
        return False
    return all([child is None or is_index(child, many) for child in value[1]])


def _is_paper(value):
    """Whether the value has the form of a paper of one kind."""
    if not isinstance(value, tuple) or not 2 <= len(value) <= 3:
        return False
    if len(value) == 2:
        return value[0] == "good" and _is_table_rows(value[1])
    return value[0] == "bad" and _is_rows(value[1]) and (_is_deed(value[2]) or _is_rows(value[2]))


def _is_deed(value):
    return isinstance(value, tuple) and len(value) == 2 and value[0] in ("put", "cut") and is_count(value[1])


def _is_table_rows(value):
    """Whether the value is an ascending tuple of rows of tables."""
    if not isinstance(value, tuple) or not all([_is_table_row(row) for row in value]):
        return False
    return all([low < high for low, high in zip(value, value[1:])])


def _is_table_row(value):
    if not isinstance(value, tuple) or len(value) != 5:
        return False
    name, index, difference, hand, rank = value
    if not is_index(index, MAX_CHILDREN) or not is_integer(difference) or not is_hand(hand) or not is_count(rank):
        return False
    if name == "":
        return (index, difference, rank) == (0, 0, 0)
    return is_name(name) and abs(difference) <= MAX_DIFFERENCE
