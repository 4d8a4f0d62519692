"""What a book tells: its numbers, its pairs, and who likes whom more."""

from idleclaims.bookparts import listed_pairs
from idleclaims.checking import need
from idleclaims.kinds import is_number, is_pupil, is_school


def how_many_pupils(book):
    return len(book[0])


def how_many_schools(book):
    return len(book[1])


def pairs_of(book):
    """The set of all pairs of the book."""
    return listed_pairs(book)


def likes_school(book, pupil, one, other):
    """Does the pupil like school one more than school other?"""
    need(is_pupil(book, pupil), "pupil")
    return _is_ahead(book[0][pupil], one, other)


def likes_pupil(book, school, one, other):
    """Does the school like pupil one more than pupil other?"""
    need(is_school(book, school), "school")
    return _is_ahead(book[1][school], one, other)


def _is_ahead(listed, one, other):
    need(is_number(one) and one in listed, "one")
    need(is_number(other) and other in listed, "other")
    return listed.index(one) < listed.index(other)
