"""Books with a pair, a pupil or a school more, or with other seats."""

from idleclaims.bookparts import with_at
from idleclaims.checking import need
from idleclaims.kinds import is_below, is_integer, is_pupil, is_school


def with_pair(book, pupil, school, place, other):
    """The book with this pair, at place of the pupil's list and at other of the school's."""
    need(is_pupil(book, pupil), "pupil")
    wish = book[0][pupil]
    need(is_school(book, school) and school not in wish, "school")
    roll = book[1][school]
    need(is_below(place, len(wish) + 1), "place")
    need(is_below(other, len(roll) + 1), "other")
    wishes = with_at(book[0], pupil, wish[:place] + (school,) + wish[place:])
    rolls = with_at(book[1], school, roll[:other] + (pupil,) + roll[other:])
    return (wishes, rolls, book[2])


def with_pupil(book):
    """The book with one more pupil at the end, without a list."""
    return (book[0] + ((),), book[1], book[2])


def with_school(book, many):
    """The book with one more school at the end, with so many seats and without a list."""
    need(_is_seats(many), "many")
    return (book[0], book[1] + ((),), book[2] + (many,))


def with_seats(book, school, many):
    """The book in which the school has so many seats."""
    need(is_school(book, school), "school")
    need(_is_seats(many), "many")
    return (book[0], book[1], with_at(book[2], school, many))


def _is_seats(thing):
    return is_integer(thing) and thing >= 1
