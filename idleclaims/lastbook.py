"""The last book of a book, and which pairs are rightful."""

from idleclaims.bookparts import listed_pairs
from idleclaims.ladder import ladder_of


def last_book(book):
    """The last level of the ladder."""
    levels = ladder_of(book)
    return levels[len(levels) - 1]


def is_last(book):
    """Is the book its own last book?"""
    return len(ladder_of(book)) == 1


def rightful_pairs(book):
    """The set of the pairs of the last book."""
    return listed_pairs(last_book(book))


def idle_pairs(book):
    """The set of the pairs that the last book lacks."""
    rightful = rightful_pairs(book)
    return tuple([pair for pair in listed_pairs(book) if pair not in rightful])
