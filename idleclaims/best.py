"""The best and the worst one of the rightful dealings."""

from idleclaims.asking import pupils_deal, refused_asked, schools_deal
from idleclaims.bookparts import struck_book
from idleclaims.checking import need
from idleclaims.kinds import is_pupil
from idleclaims.lastbook import last_book
from idleclaims.reasons import struck_in, told_marks
from idleclaims.seating import Seating


def best_deal(book):
    """The dealing that gives each pupil its first school in the last book."""
    return firsts_in(last_book(book))


def worst_deal(book):
    """The schools' dealing of the last book."""
    return schools_deal(last_book(book))


def at_best(book, pupil):
    """The pupil's place in the best dealing, or None."""
    need(is_pupil(book, pupil), "pupil")
    return dict(best_deal(book)).get(pupil)


def best_by_rises(book):
    """The sets that "up" strikes round by round until nobody is refused, and the pupils' dealing then."""
    rounds = []
    left = book
    while refused_asked(left):
        seating = Seating(left, pupils_deal(left))
        struck = struck_in(seating, "up", told_marks(seating, "up"))
        rounds.append(struck)
        left = struck_book(left, struck)
    return (tuple(rounds), pupils_deal(left))


def firsts_in(last):
    """The best dealing of a book that is its own last book."""
    return tuple([(pupil, wish[0]) for pupil, wish in enumerate(last[0]) if wish])
