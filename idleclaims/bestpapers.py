"""Papers that show which dealing is the best one."""

from idleclaims.best import best_deal
from idleclaims.checking import is_plain_dealing
from idleclaims.errors import InvalidPaper
from idleclaims.stepchecker import lets_steps
from idleclaims.stepmakers import steps_of


def best_paper(book):
    """Rows that lead to the last book, and the best dealing."""
    return (steps_of(book), best_deal(book))


def lets_best(book, thing):
    """The best dealing, which the paper shows."""
    if not isinstance(thing, tuple) or len(thing) != 2:
        raise InvalidPaper("shape", -1)
    rows, dealing = thing
    left = lets_steps(book, rows)
    if not is_plain_dealing(left, dealing):
        raise InvalidPaper("dealing", 1)
    places = dict(dealing)
    for pupil, wish in enumerate(left[0]):
        if wish and places.get(pupil) != wish[0]:
            raise InvalidPaper("first", pupil)
    return dealing
