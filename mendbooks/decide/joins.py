"""Joins and splits of all trees."""

from mendbooks.books.books import Book
from mendbooks.decide.judging import is_bad_paper, is_good_rows
from mendbooks.decide.least import bad_paper, failing_pair
from mendbooks.decide.tables import Table
from mendbooks.errors import InvalidBook
from mendbooks.mend.woods import hand_of_form
from mendbooks.ranks.ranks import existence_of


def join_paper(book):
    """A paper for both kinds of joins; a bad one has as few keys as possible."""
    tables = _tables_of(book)
    bad = [failing_pair(table) for table in tables if not table.is_good]
    if not bad:
        return ("good", tables[0].rows, tables[1].rows)
    return bad_paper(bad[0] if len(bad) == 1 or _keys_of(bad[0]) <= _keys_of(bad[1]) else bad[1])


def is_join_paper(book, value):
    """Whether the value is a paper for both kinds of joins."""
    tables = _tables_of(book)
    if not isinstance(value, tuple) or len(value) != 3:
        return False
    if value[0] == "good":
        return all([is_good_rows(table.course, rows) for table, rows in zip(tables, value[1:])])
    return any([is_bad_paper(book, table.kind, value) for table in tables])


def unraised(book):
    """The ascending names of the forms that parts of right trees can have, but that are not raised to right trees."""
    if not isinstance(book, Book):
        raise InvalidBook("trees are raised by a book")
    scheme = book.scheme
    existence = existence_of(scheme)
    useful = existence.useful_from(None)
    found = [name for rank, sorts in enumerate(useful) for name in existence.forms_at(rank)
             if scheme[name].sort_name in sorts and scheme[name].sort_name not in scheme.tops]
    return tuple(sorted(set([name for name in found if not book.at(("top", hand_of_form(scheme[name])))])))


def _tables_of(book):
    """The tables of both kinds of joins."""
    left = Table(book, "left")
    return left, Table(book, "right")


def _keys_of(pair):
    """The number of keys of two shapes together."""
    return pair[0].size + pair[1].size
