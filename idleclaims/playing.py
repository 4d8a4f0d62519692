"""Hearings played to their end."""

from idleclaims.answers import winning_answer
from idleclaims.checking import need, need_one_seat
from idleclaims.exact import best_answer
from idleclaims.kinds import is_dealing
from idleclaims.naming import is_nameable
from idleclaims.seating import claims_in


def played_out(book, dealing):
    """A hearing from the dealing on in which both sides play as well as they can, for one seat each."""
    need_one_seat(book)
    need(is_dealing(book, dealing), "dealing")
    hearing = []
    following = dealing
    while following is not None:
        hearing.append(following)
        following = best_answer(book, following)
    return tuple(hearing)


def answered(book, dealing, named):
    """The hearing from this won dealing on in which the loser names these values, as long as it can."""
    answer = winning_answer(book, dealing)
    need(answer is not None, "dealing")
    need(isinstance(named, tuple), "named")
    hearing = [dealing, answer]
    for value in named:
        if claims_in(book, answer) == ():
            break
        need(is_nameable(book, answer, value), "named")
        # What may be named with a lost dealing on the table is won.
        answer = winning_answer(book, value)
        hearing.extend([value, answer])
    return tuple(hearing)
