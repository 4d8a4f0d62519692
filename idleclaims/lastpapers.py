"""Papers that show the last book of a book."""

from idleclaims.bookparts import listed_pairs
from idleclaims.checking import is_plain_dealing
from idleclaims.errors import InvalidPaper
from idleclaims.lastbook import last_book
from idleclaims.stepchecker import lets_steps
from idleclaims.stepmakers import steps_of
from idleclaims.walks import walk_of


def last_paper(book):
    """Rows that lead to the last book, and plain dealings of it that have all its pairs."""
    return (steps_of(book), walk_of(last_book(book)))


def lets_last_paper(book, thing):
    """The last book, which the paper shows."""
    if not isinstance(thing, tuple) or len(thing) != 2:
        raise InvalidPaper("shape", -1)
    rows, dealings = thing
    left = lets_steps(book, rows)
    if not isinstance(dealings, tuple):
        raise InvalidPaper("dealings", 1)
    for k, dealing in enumerate(dealings):
        if not is_plain_dealing(left, dealing):
            raise InvalidPaper("plain", k)
    covered = {pair: True for dealing in dealings for pair in dealing}
    for pair in listed_pairs(left):
        if pair not in covered:
            raise InvalidPaper("uncovered", pair)
    return left
