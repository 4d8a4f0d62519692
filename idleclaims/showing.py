"""Plain dealings that show the kind of a pair."""

from idleclaims.checking import need
from idleclaims.kinds import is_pair
from idleclaims.reasons import cold_in
from idleclaims.seating import Seating
from idleclaims.walks import walk_of


def plain_with(book, pair):
    """A plain dealing that has the pair, or None."""
    need(is_pair(book, pair), "pair")
    for dealing in walk_of(book):
        if pair in dealing:
            return dealing
    return None


def cold_at(book, pair):
    """A plain dealing that lacks the pair and at which neither of it wants the other, or None."""
    need(is_pair(book, pair), "pair")
    for dealing in walk_of(book):
        if pair in cold_in(Seating(book, dealing)):
            return dealing
    return None
