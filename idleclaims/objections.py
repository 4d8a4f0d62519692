"""Objections to dealings that are not rightful."""

from idleclaims.checking import need
from idleclaims.kinds import is_dealing, is_pair
from idleclaims.lastbook import rightful_pairs
from idleclaims.rightful import is_rightful, rightful_with
from idleclaims.seating import claims_in


def objecting_pairs(book, dealing):
    """The set of the rightful pairs that claim against the dealing."""
    need(is_dealing(book, dealing), "dealing")
    rightful = rightful_pairs(book)
    return tuple([pair for pair in claims_in(book, dealing) if pair in rightful])


def objection_to(book, dealing):
    """A pair that claims against the dealing and a rightful dealing that has it; None for a rightful one."""
    pairs = objecting_pairs(book, dealing)
    return (pairs[0], rightful_with(book, pairs[0])) if pairs else None


def lets_objection(book, dealing, thing):
    """Is thing a pair that claims against the dealing and a rightful dealing that has it?"""
    need(is_dealing(book, dealing), "dealing")
    if not isinstance(thing, tuple) or len(thing) != 2:
        return False
    pair, other = thing
    if not is_pair(book, pair) or not is_dealing(book, other) or not is_rightful(book, other):
        return False
    return pair in other and pair in claims_in(book, dealing)
