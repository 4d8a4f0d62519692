"""Places in a dealing, and dealings made by places."""

from idleclaims.bookparts import dealing_with
from idleclaims.checking import need
from idleclaims.kinds import is_dealing, is_pairs, is_pupil, is_school


def place_of(book, dealing, pupil):
    """The pupil's school, or None."""
    need(is_dealing(book, dealing), "dealing")
    need(is_pupil(book, pupil), "pupil")
    return dict(dealing).get(pupil)


def places_of(book, dealing):
    """The tuple of the places of all pupils."""
    need(is_dealing(book, dealing), "dealing")
    places = dict(dealing)
    return tuple([places.get(pupil) for pupil in range(len(book[0]))])


def held_by(book, dealing, school):
    """The set of the pupils that the school holds."""
    need(is_dealing(book, dealing), "dealing")
    need(is_school(book, school), "school")
    return tuple([pupil for pupil, place in dealing if place == school])


def free_seats(book, dealing, school):
    """How many of its seats the school has left."""
    held = held_by(book, dealing, school)
    return book[2][school] - len(held)


def dealing_of(book, places):
    """The dealing with these places of all pupils."""
    need(isinstance(places, tuple) and len(places) == len(book[0]), "places")
    dealing = dealing_with(places)
    need(is_dealing(book, dealing), "places")
    return dealing


def moved(book, dealing, pairs):
    """The dealing in which the pupils of pairs have got the schools of their pairs, all at once."""
    need(is_dealing(book, dealing), "dealing")
    need(is_pairs(book, pairs), "pairs")
    leaving = dict(pairs)
    staying = [pair for pair in dealing if pair[0] not in leaving]
    result = tuple(sorted(staying + list(pairs)))
    need(is_dealing(book, result), "pairs")
    return result
