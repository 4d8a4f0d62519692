"""The rightful dealings of a book: those that are plain in its last book."""

from idleclaims.checking import is_plain_dealing, need
from idleclaims.kinds import is_dealing, is_pair
from idleclaims.ladder import ladder_of
from idleclaims.lastbook import last_book
from idleclaims.showing import plain_with
from idleclaims.walks import all_plain, how_many_plain


def is_rightful(book, dealing):
    """Is the dealing rightful?"""
    need(is_dealing(book, dealing), "dealing")
    return is_plain_dealing(last_book(book), dealing)


def rightful_level(book, dealing):
    """The number of the first level at which the dealing is plain; None if it is not rightful."""
    need(is_dealing(book, dealing), "dealing")
    for k, level in enumerate(ladder_of(book)):
        if is_plain_dealing(level, dealing):
            return k
    return None


def all_rightful(book):
    """The tuple of all rightful dealings, in the sequence of all dealings."""
    # The lists of the last book keep the sequence of those of the book.
    return all_plain(last_book(book))


def how_many_rightful(book):
    return how_many_plain(last_book(book))


def rightful_with(book, pair):
    """A rightful dealing that has the pair; None for an idle pair."""
    need(is_pair(book, pair), "pair")
    last = last_book(book)
    return plain_with(last, pair) if is_pair(last, pair) else None
