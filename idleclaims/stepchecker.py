"""The checker of rows that strike pairs one row after the other."""

from idleclaims.bookparts import struck_book
from idleclaims.checking import is_plain_dealing
from idleclaims.errors import InvalidPaper
from idleclaims.kinds import is_pairs
from idleclaims.reasons import are_marks, struck_in
from idleclaims.seating import Seating
from idleclaims.stepkinds import is_row


def lets_steps(book, thing):
    """The book left by these rows; at first it is the book."""
    if not isinstance(thing, tuple):
        raise InvalidPaper("shape", -1)
    left = book
    for k, row in enumerate(thing):
        left = _left_by(left, k, row)
    return left


def _left_by(book, k, row):
    """The book left by the row at place k from this book."""
    if not is_row(row):
        raise InvalidPaper("row", k)
    reason, dealing, marks, pairs = row
    if not is_plain_dealing(book, dealing):
        raise InvalidPaper("dealing", k)
    seating = Seating(book, dealing)
    if not are_marks(seating, reason, marks):
        raise InvalidPaper("marks", k)
    if not is_pairs(book, pairs):
        raise InvalidPaper("pairs", k)
    struck = struck_in(seating, reason, marks)
    for i, pair in enumerate(pairs):
        if pair not in struck:
            raise InvalidPaper("pair", (k, i))
    return struck_book(book, pairs)
