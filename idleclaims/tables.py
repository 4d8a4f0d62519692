"""The outcomes and moves of all dealings."""

from idleclaims.hearing import hearing_table


def outcome_table(book):
    """For each dealing, in the sequence of all dealings, is it won, and its moves."""
    return hearing_table(book, ())


def longest(book):
    """The greatest number of moves that a dealing has."""
    return max([moves for _, moves in outcome_table(book)])
