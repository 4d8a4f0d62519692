"""The hearing under a waiver: waived pairs do not count in naming."""

from idleclaims.checking import need
from idleclaims.hearing import hearing_table
from idleclaims.idlechecks import need_waived
from idleclaims.kinds import is_dealing
from idleclaims.waivers import claims_left


def can_name(book, waived, dealing, other):
    """May other be named against dealing?"""
    left = claims_left(book, waived, dealing)
    need(is_dealing(book, other), "other")
    return any(pair in other for pair in left)


def wins_under(book, waived):
    """For each dealing, in the sequence of all dealings, is it won, and its moves."""
    need_waived(book, waived)
    return hearing_table(book, waived)
