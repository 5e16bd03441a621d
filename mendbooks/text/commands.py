"""The commands of a shell, and the answers of a bench to them.

The answer to what is no command is None. The errors of what a command asks for are raised.
"""

from mendbooks.decide.least import is_good, paper
from mendbooks.decide.tables import DEEDS, Table
from mendbooks.decide.uses import lacking, most_drawings, spared
from mendbooks.errors import ParseError
from mendbooks.mend.deeds import cut, put
from mendbooks.ranks.counts import count_right
from mendbooks.ranks.heights import greatest_height
from mendbooks.text.marks import number_in, place_line
from mendbooks.text.texts import read_rows, write_paper, write_rows
from mendbooks.trees.shapes import Shape

_PLAIN_DEEDS = ("put", "cut")


def pledge_line(pledge):
    """The words of a pledge that a shell can have."""
    return " ".join([str(part) for part in pledge])


def _pledge_in(text):
    """The pledge that a text tells; None for other texts."""
    words = text.split(" ")
    if len(words) == 2 and words[0] == "good" and words[1] in DEEDS:
        return ("good", words[1])
    if len(words) != 3 or words[0] != "most" or words[1] not in _PLAIN_DEEDS:
        return None
    number = number_in(words[2])
    return None if number is None else ("most", words[1], number)


def _told(lines):
    """Several lines as one answer."""
    return "; ".join(lines) if lines else "nothing"


def _news_told(news):
    """The news as an answer."""
    told = [f"{kind} good" if is_now else f"{kind} bad" for kind, is_now in news]
    return ", ".join(told) if told else "nothing"


def _draw(bench, text):
    return _news_told(bench.draw(text))


def _erase(bench, text):
    return _news_told(bench.erase(text))


def _demand(bench, text):
    pledge = _pledge_in(text)
    return None if pledge is None else _news_told(bench.demand(pledge))


def _waive(bench, text):
    pledge = _pledge_in(text)
    return None if pledge is None else _news_told(bench.waive(pledge))


def _undo(bench):
    return _news_told(bench.undo())


def _redo(bench):
    return _news_told(bench.redo())


def _lines(bench):
    return _told(bench.book.lines)


def _pledges(bench):
    return _told([pledge_line(pledge) for pledge in bench.pledges])


def _good(bench, text):
    if text not in DEEDS:
        return None
    return "yes" if is_good(bench.book, text) else "no"


def _rows(bench, text):
    if text not in DEEDS:
        return None
    table = Table(bench.book, text)
    return f"{len(table)} rows, {len(table.open_rows) + len(table.open_starts)} open"


def _paper(bench, text):
    if text not in DEEDS:
        return None
    found = paper(bench.book, text)
    return "good" if found[0] == "good" else _told(write_paper(found).split("\n"))


def _lack(bench, text):
    if text not in _PLAIN_DEEDS:
        return None
    return _told([place_line(place) for place in lacking(bench.book, text)])


def _unused(bench):
    kept = spared(bench.book)
    return _told([drawing.line for drawing in bench.book.drawings if drawing.line not in kept])


def _most(bench, text):
    if text not in _PLAIN_DEEDS:
        return None
    most = most_drawings(bench.book, text)
    return "none" if most is None else str(most)


def _height(bench, text):
    number = number_in(text)
    return None if number is None else str(greatest_height(bench.book.scheme, number))


def _count(bench, text):
    number = number_in(text)
    return None if number is None else str(count_right(bench.book.scheme, number))


def _do(bench, text):
    ahead, _, told = text.partition(" in ")
    kind, _, word = ahead.partition(" ")
    number = number_in(word)
    rows = _rows_in(told)
    if kind not in _PLAIN_DEEDS or number is None or rows is None:
        return None
    shape = Shape(bench.book.scheme, rows)
    left = put(bench.book, shape, number) if kind == "put" else cut(bench.book, shape, number)
    return _told(write_rows(left.rows).split("\n"))


def _rows_in(text):
    """The rows of a shape that a text tells; None for other texts."""
    try:
        return read_rows(text.replace("; ", "\n"))
    except ParseError:
        return None


# The commands of one word, and those that tell more.
_SHORT = {"undo": _undo, "redo": _redo, "lines": _lines, "pledges": _pledges, "unused": _unused}
_LONG = {
    "draw": _draw, "erase": _erase, "demand": _demand, "waive": _waive, "good": _good, "rows": _rows, "paper": _paper,
    "lack": _lack, "most": _most, "height": _height, "count": _count, "do": _do}


def answer_to(bench, line):
    """The answer of a bench to a line."""
    if not isinstance(line, str) or "\n" in line:
        return None
    if line in _SHORT:
        short = _SHORT[line]
        return short(bench)
    word, _, rest = line.partition(" ")
    if word not in _LONG or rest == "":
        return None
    asked = _LONG[word]
    return asked(bench, rest)
