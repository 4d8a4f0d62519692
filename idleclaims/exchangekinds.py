"""What the schools give and get from one dealing to another, and when this is an exchange."""

from idleclaims.checking import need, need_plain
from idleclaims.comparing import gainers, losers
from idleclaims.kinds import is_dealing, is_set_below
from idleclaims.seating import Seating


def given_and_got(book, dealing, other, pupils):
    """For each school how many of the pupils it gives, how many it gets."""
    need(is_dealing(book, dealing), "dealing")
    need(is_dealing(book, other), "other")
    need(is_set_below(pupils, len(book[0])), "pupils")
    here, there = dict(dealing), dict(other)
    moving = [pupil for pupil in pupils if here.get(pupil) != there.get(pupil)]
    given = [here.get(pupil) for pupil in moving]
    got = [there.get(pupil) for pupil in moving]
    return tuple([(given.count(school), got.count(school)) for school in range(len(book[1]))])


def is_exchange(book, plain, dealing):
    """The five conditions of an exchange, each told by itself."""
    need_plain(book, plain)
    need(is_dealing(book, dealing), "dealing")
    risers, fallers = gainers(book, plain, dealing), losers(book, plain, dealing)
    here, there = Seating(book, plain), Seating(book, dealing)
    sought = [there.place(pupil) for pupil in risers]
    left = [here.place(pupil) for pupil in fallers]
    return (
        all(here.place(pupil) is not None for pupil in risers),
        _are_even(here, there, risers, sought),
        all(there.place(pupil) is not None for pupil in fallers),
        _are_even(here, there, fallers, left) and all(_likes_new(here, there, pupil) for pupil in fallers),
        not any(school in left for school in sought),
    )


def _are_even(here, there, pupils, schools):
    """Is each of the schools full in both dealings, and gets as many of the pupils as it gives?"""
    counted = given_and_got(here.book, here.dealing, there.dealing, pupils)
    full = all(here.is_full(school) and there.is_full(school) for school in schools)
    return full and all(counted[school][0] == counted[school][1] for school in schools)


def _likes_new(here, there, pupil):
    """Does the school that this pupil left like each pupil that it holds now more than it?"""
    school = here.place(pupil)
    roll = here.rolls[school]
    return all(roll.index(other) < roll.index(pupil) for other in there.held_lists[school])
