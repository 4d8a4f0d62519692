"""Books with lists in another sequence, or with idle pairs left out, that keep the rightful dealings."""

from idleclaims.best import best_deal
from idleclaims.bookparts import listed_pairs, struck_book, with_at
from idleclaims.checking import need
from idleclaims.kinds import is_below, is_book, is_number, is_pupil, is_school, is_set_below
from idleclaims.lastbook import rightful_pairs


def moved_wish(book, pupil, school, place):
    """The book in which the school stands at this place of the pupil's list."""
    need(is_pupil(book, pupil), "pupil")
    wish = book[0][pupil]
    need(is_number(school) and school in wish, "school")
    need(is_below(place, len(wish)), "place")
    return (with_at(book[0], pupil, _put(wish, school, place)), book[1], book[2])


def moved_roll(book, school, pupil, place):
    """The book in which the pupil stands at this place of the school's list."""
    need(is_school(book, school), "school")
    roll = book[1][school]
    need(is_number(pupil) and pupil in roll, "pupil")
    need(is_below(place, len(roll)), "place")
    return (book[0], with_at(book[1], school, _put(roll, pupil, place)), book[2])


def is_lowered(book, thing):
    """Is thing the book with idle pairs struck, or moved back behind rightful ones, alone?"""
    if not is_book(thing) or len(thing[0]) != len(book[0]) or thing[2] != book[2]:
        return False
    rightful, old, new = rightful_pairs(book), listed_pairs(book), listed_pairs(thing)
    if not all(pair in new for pair in rightful) or not all(pair in old for pair in new):
        return False
    wishes = all(_stays_ahead(book[0][pupil], thing[0][pupil], school) for pupil, school in rightful)
    return wishes and all(_stays_ahead(book[1][school], thing[1][school], pupil) for pupil, school in rightful)


def best_first(book, pupils):
    """The book in which each of these pupils puts its place in the best dealing first."""
    need(is_set_below(pupils, len(book[0])), "pupils")
    wishes = book[0]
    for pupil, school in best_deal(book):
        if pupil in pupils:
            wishes = with_at(wishes, pupil, _put(wishes[pupil], school, 0))
    return (wishes, book[1], book[2])


def trimmed(book, pupils):
    """The book in which each of these pupils strikes all ahead of its place in the best dealing."""
    need(is_set_below(pupils, len(book[0])), "pupils")
    places = dict(best_deal(book))
    gone = []
    for pupil in pupils:
        wish = book[0][pupil]
        ahead = wish[:wish.index(places[pupil])] if pupil in places else wish
        gone.extend([(pupil, school) for school in ahead])
    return struck_book(book, gone)


def _put(listed, entry, place):
    """The list with this entry of it at this place; the others keep their sequence."""
    others = tuple([other for other in listed if other != entry])
    return others[:place] + (entry,) + others[place:]


def _stays_ahead(old, new, entry):
    """Is nothing that stood behind the entry in the old list ahead of it in the new one?"""
    at = old.index(entry)
    return all(old.index(other) < at for other in new[:new.index(entry)])
