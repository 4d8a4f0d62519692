"""What is the same in all rightful dealings; the pupils' dealing is one of them, so that it tells it."""

from idleclaims.asking import pupils_deal
from idleclaims.dealings import held_by
from idleclaims.placed import filled, fixed_schools, placed_pupils


def placed_rightful(book):
    """The set of the pupils with a place in the rightful dealings."""
    return placed_pupils(book)


def filled_rightful(book):
    """For each school how many pupils it holds in each rightful dealing."""
    return filled(book)


def free_held(book):
    """The schools that are not full in the rightful dealings, each with the set of the pupils that it holds."""
    dealing = pupils_deal(book)
    return tuple([(school, held_by(book, dealing, school)) for school in fixed_schools(book)])
