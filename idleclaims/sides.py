"""Moves of dealings put together of two books side by side."""

from idleclaims.checking import need, need_one_seat
from idleclaims.kinds import is_book, is_dealing
from idleclaims.outcomes import bound_of


def side_moves(book, other, dealing, beside):
    """The moves, in the books side by side, of the dealing put together of both, for one seat each."""
    need_one_seat(book)
    need(is_book(other), "other")
    need_one_seat(other)
    need(is_dealing(book, dealing), "dealing")
    need(is_dealing(other, beside), "beside")
    both = (bound_of(book, dealing), bound_of(other, beside))
    # With one seat each the bounds are the moves; those of a won dealing are odd.
    won = [moves for moves in both if moves % 2 == 1]
    return min(won) if won else max(both)
