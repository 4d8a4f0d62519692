"""Which claims are left if idle pairs are waived."""

from idleclaims.checking import need
from idleclaims.idlechecks import need_rightful, need_waived
from idleclaims.kinds import is_dealing, is_pairs, is_pupil
from idleclaims.lastbook import idle_pairs, rightful_pairs
from idleclaims.seating import claims_in


def is_waiver(book, thing):
    """Is thing a set of idle pairs?"""
    if not is_pairs(book, thing):
        return False
    rightful = rightful_pairs(book)
    return not any(pair in rightful for pair in thing)


def all_idle_of(book, pupil):
    """The set of the pupil's idle pairs."""
    need(is_pupil(book, pupil), "pupil")
    return tuple([pair for pair in idle_pairs(book) if pair[0] == pupil])


def claims_left(book, waived, dealing):
    """The set of the pairs that claim against the dealing and are not waived."""
    need_waived(book, waived)
    need(is_dealing(book, dealing), "dealing")
    return claims_besides(book, waived, dealing)


def is_allowed(book, waived, dealing):
    """Is no claim left against the dealing?"""
    return claims_left(book, waived, dealing) == ()


def least_waiver(book, dealing):
    """The set of the pairs that have to be waived so that this rightful dealing is allowed."""
    need_rightful(book, dealing)
    return claims_in(book, dealing)


def claims_besides(book, waived, dealing):
    """The claims left, no parameter being judged."""
    return tuple([pair for pair in claims_in(book, dealing) if pair not in waived])
