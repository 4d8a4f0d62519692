"""Walks from the pupils' to the schools' dealing, and all plain dealings."""

from idleclaims.asking import pupils_deal, schools_deal
from idleclaims.bookparts import likings
from idleclaims.errors import InvalidPaper
from idleclaims.kinds import is_dealing
from idleclaims.turning import turned_from


def walk_of(book):
    """The walk that turns each time along the turning with the least pupil."""
    return walk_from(book, pupils_deal(book))


def walk_from(book, here):
    """The dealings that the turnings with the least pupil make from this plain one on."""
    walk = [here]
    following = turned_from(book, here)
    while following:
        here = following[0]
        walk.append(here)
        following = turned_from(book, here)
    return tuple(walk)


def all_plain(book):
    """The tuple of all plain dealings, in the sequence of all dealings."""
    first = pupils_deal(book)
    found = {first: True}
    waiting = [first]
    while waiting:
        here = waiting.pop()
        for dealing in turned_from(book, here):
            if dealing not in found:
                found[dealing] = True
                waiting.append(dealing)
    return tuple(sorted(found, key=lambda dealing: likings(book, dealing)))


def how_many_plain(book):
    return len(all_plain(book))


def lets_walk(book, thing):
    """The number of turnings of the walk thing, any walk."""
    if not isinstance(thing, tuple) or not thing:
        raise InvalidPaper("shape", -1)
    if not is_dealing(book, thing[0]) or thing[0] != pupils_deal(book):
        raise InvalidPaper("first", 0)
    for k in range(1, len(thing)):
        if not is_dealing(book, thing[k]) or thing[k] not in turned_from(book, thing[k - 1]):
            raise InvalidPaper("turned", k)
    last = len(thing) - 1
    if thing[last] != schools_deal(book):
        raise InvalidPaper("last", last)
    return last
