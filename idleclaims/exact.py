"""Moves of dealings, and what keeps to them, for one seat each."""

from idleclaims.answers import winning_answer
from idleclaims.checking import need_one_seat
from idleclaims.ladder import ladder_of
from idleclaims.outcomes import bound_of
from idleclaims.rightful import rightful_level
from idleclaims.seating import claims_in
from idleclaims.unclaimed import open_with


def moves_of(book, dealing):
    """The moves of the dealing."""
    need_one_seat(book)
    # With one seat each the bounds are exact.
    return bound_of(book, dealing)


def long_answer(book, dealing):
    """What may be named with a lost dealing on the table and has 1 move less; None for another dealing."""
    need_one_seat(book)
    level = rightful_level(book, dealing)
    if level is None or level == 0:
        return None
    levels = ladder_of(book)
    pair = claims_in(levels[level - 1], dealing)[0]
    # A plain dealing of that level answers whatever has the pair. One level earlier the pair is not loose:
    # there a dealing has it against which no plain one claims.
    return (pair,) if level == 1 else open_with(levels[level - 2], pair)


def best_answer(book, dealing):
    """What may be named with the dealing on the table and has 1 move less; None if nothing may be named."""
    need_one_seat(book)
    answer = winning_answer(book, dealing)
    return long_answer(book, dealing) if answer is None else answer
