"""Is a shorter book the last book, or between a book and its last book?"""

from idleclaims.bookparts import listed_pairs
from idleclaims.errors import InvalidPaper
from idleclaims.lastbook import rightful_pairs
from idleclaims.makers import is_shorter


def lets_last(book, thing):
    """True if thing is the last book, False if it is another shorter book with all rightful pairs."""
    if not is_shorter(book, thing):
        raise InvalidPaper("shape", -1)
    left, rightful = listed_pairs(thing), rightful_pairs(book)
    for pair in rightful:
        if pair not in left:
            raise InvalidPaper("lacking", pair)
    return left == rightful


def is_between(book, thing):
    """Is thing a shorter book with all rightful pairs?"""
    if not is_shorter(book, thing):
        return False
    left = listed_pairs(thing)
    return all(pair in left for pair in rightful_pairs(book))
