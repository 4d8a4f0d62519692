"""Who wants whom at a dealing, and which pairs claim against it."""

from idleclaims.checking import need
from idleclaims.kinds import is_dealing, is_pair
from idleclaims.seating import Seating, claims_in


def pupil_wants(book, dealing, pair):
    """Does the pupil of the pair want its school?"""
    need(is_dealing(book, dealing), "dealing")
    need(is_pair(book, pair), "pair")
    pupil, school = pair
    return Seating(book, dealing).would_go(pupil, school)


def school_wants(book, dealing, pair):
    """Does the school of the pair want its pupil?"""
    need(is_dealing(book, dealing), "dealing")
    need(is_pair(book, pair), "pair")
    pupil, school = pair
    return Seating(book, dealing).would_take(school, pupil)


def claims_against(book, dealing):
    """The set of the pairs that claim against the dealing."""
    need(is_dealing(book, dealing), "dealing")
    return claims_in(book, dealing)


def is_plain(book, dealing):
    """Does no pair claim against the dealing?"""
    return not claims_against(book, dealing)
