"""Hearings: dealings named one against the other."""

from idleclaims.checking import need
from idleclaims.errors import InvalidPaper
from idleclaims.kinds import is_dealing
from idleclaims.seating import claims_in


def may_name(book, dealing, other):
    """May other be named with dealing on the table?"""
    return heard_claims(book, dealing, other) != ()


def heard_claims(book, dealing, other):
    """The set of the pairs of other that claim against dealing."""
    need(is_dealing(book, dealing), "dealing")
    need(is_dealing(book, other), "other")
    return tuple([pair for pair in claims_in(book, dealing) if pair in other])


def lets_hearing(book, thing):
    """How many dealings are named in the hearing thing."""
    if not isinstance(thing, tuple) or not thing:
        raise InvalidPaper("shape", -1)
    for k, dealing in enumerate(thing):
        if not is_dealing(book, dealing):
            raise InvalidPaper("dealing", k)
        if k > 0 and not may_name(book, thing[k - 1], dealing):
            raise InvalidPaper("naming", k)
    return len(thing) - 1


def is_ended(book, hearing):
    """Can nothing be named with the last dealing of the hearing on the table?"""
    need(_is_hearing(book, hearing), "hearing")
    return claims_in(book, hearing[len(hearing) - 1]) == ()


def is_nameable(book, dealing, thing):
    """Is thing a dealing that may be named with dealing on the table?"""
    return is_dealing(book, thing) and may_name(book, dealing, thing)


def _is_hearing(book, thing):
    if not isinstance(thing, tuple) or not thing or not is_dealing(book, thing[0]):
        return False
    return all(is_nameable(book, here, there) for here, there in zip(thing, thing[1:]))
