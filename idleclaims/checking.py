"""The refusals of parameters that several modules share."""

from idleclaims.errors import Crowded, NotPlain, NotUsable
from idleclaims.kinds import is_dealing
from idleclaims.seating import claims_in


def need(fine, name):
    """Refuses the parameter with this name unless it is fine."""
    if not fine:
        raise NotUsable(name, -1)


def need_plain(book, plain, name="plain"):
    """Refuses a parameter, mostly called plain, that is no dealing that is plain in the book."""
    need(is_dealing(book, plain), name)
    claims = claims_in(book, plain)
    if claims:
        raise NotPlain(claims[0])


def need_one_seat(book):
    """Refuses a book in which a school has more seats than one."""
    for school, many in enumerate(book[2]):
        if many > 1:
            raise Crowded(school)


def is_plain_dealing(book, thing):
    """Is thing a dealing of the book that is plain in it?"""
    return is_dealing(book, thing) and claims_in(book, thing) == ()
