"""Which side wins from a dealing, and in how many moves at most."""

from idleclaims.checking import need
from idleclaims.kinds import is_dealing
from idleclaims.ladder import ladder_of
from idleclaims.rightful import is_rightful, rightful_level
from idleclaims.seating import claims_in
from idleclaims.unclaimed import first_holding


def outcome_of(book, dealing):
    """Is the dealing "lost" or "won" for the side that is to move with it on the table?"""
    return "lost" if is_rightful(book, dealing) else "won"


def winning_level(book, dealing):
    """The first level of which a plain dealing has a pair that claims; None for a lost dealing."""
    level, _ = level_and_answer(book, dealing)
    return level


def bound_of(book, dealing):
    """In how many moves the dealing is won or lost at most."""
    level = winning_level(book, dealing)
    return 2 * rightful_level(book, dealing) if level is None else 2 * level + 1


def level_and_answer(book, dealing):
    """The first level of which plain dealings claim, and the first one on its walk; (None, None) for a lost one."""
    need(is_dealing(book, dealing), "dealing")
    claims = claims_in(book, dealing)
    for level, left in enumerate(ladder_of(book)):
        answer = first_holding(left, claims)
        if answer is not None:
            return (level, answer)
    return (None, None)
