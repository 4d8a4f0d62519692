"""Rightful dealings made of rightful dealings."""

from idleclaims.bookparts import better_of, worse_of
from idleclaims.checking import is_plain_dealing, need
from idleclaims.lastbook import last_book
from idleclaims.seating import Seating
from idleclaims.turning import turnings_in
from idleclaims.walks import walk_from


def rightful_better(book, dealing, other):
    """The dealing in which each pupil has the one of its two places that it likes more."""
    _need_both(book, dealing, other)
    return better_of(book, dealing, other)


def rightful_worse(book, dealing, other):
    """The dealing in which each pupil has the one of its two places that it likes less."""
    _need_both(book, dealing, other)
    return worse_of(book, dealing, other)


def turnings_down(book, dealing):
    """The set of the turnings at the dealing in the last book."""
    last = last_book(book)
    need(is_plain_dealing(last, dealing), "dealing")
    return turnings_in(Seating(last, dealing))


def down_from(book, dealing):
    """The dealings made from this one on by the turnings in the last book that have the least pupil."""
    last = last_book(book)
    need(is_plain_dealing(last, dealing), "dealing")
    return walk_from(last, dealing)


def _need_both(book, dealing, other):
    last = last_book(book)
    need(is_plain_dealing(last, dealing), "dealing")
    need(is_plain_dealing(last, other), "other")
