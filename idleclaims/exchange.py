"""Dealings against which no pair of a plain one claims: who rises and who falls."""

from idleclaims.checking import need, need_plain
from idleclaims.comparing import gainers, losers
from idleclaims.errors import Claimed
from idleclaims.kinds import is_dealing
from idleclaims.seating import claims_in


def unclaimed_by(book, plain, dealing):
    """Does no pair of plain claim against dealing?"""
    return first_claim(book, plain, dealing) is None


def first_claim(book, plain, dealing):
    """The first pair of plain that claims against dealing, or None."""
    need_plain(book, plain)
    need(is_dealing(book, dealing), "dealing")
    for pair in claims_in(book, dealing):
        if pair in plain:
            return pair
    return None


def exchanged(book, plain, dealing):
    """The set of the risers and that of the fallers; no pair of plain may claim."""
    pair = first_claim(book, plain, dealing)
    if pair is not None:
        raise Claimed(pair)
    return (gainers(book, plain, dealing), losers(book, plain, dealing))
