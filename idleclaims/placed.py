"""What is the same in all plain dealings."""

from idleclaims.asking import pupils_deal
from idleclaims.seating import Seating


def placed_pupils(book):
    """The set of the pupils that have a place in each plain dealing."""
    return tuple([pupil for pupil, _ in pupils_deal(book)])


def filled(book):
    """For each school how many pupils it holds in each plain dealing."""
    held = [school for _, school in pupils_deal(book)]
    return tuple([held.count(school) for school in range(len(book[1]))])


def fixed_schools(book):
    """The set of the schools that are not full in the plain dealings."""
    seating = Seating(book, pupils_deal(book))
    return tuple([school for school in range(len(book[1])) if not seating.is_full(school)])
