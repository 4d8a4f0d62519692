"""Rows that strike the idle pairs of a book."""

from idleclaims.bookparts import struck_book
from idleclaims.checking import need
from idleclaims.errors import NotIdle
from idleclaims.kinds import is_pair
from idleclaims.telling import pairs_in, told_rows


def steps_of(book):
    """Rows that lead from the book to its last book."""
    steps = []
    left = book
    rows = told_rows(left)
    while rows:
        steps.extend(rows)
        left = struck_book(left, pairs_in(rows))
        rows = told_rows(left)
    return tuple(steps)


def steps_to(book, pair):
    """Rows of which the last one strikes this idle pair."""
    need(is_pair(book, pair), "pair")
    steps = steps_of(book)
    for k, row in enumerate(steps):
        if pair in row[3]:
            return steps[:k + 1]
    raise NotIdle(pair)
