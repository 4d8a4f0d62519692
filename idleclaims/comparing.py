"""How the pupils compare two dealings."""

from idleclaims.bookparts import likings
from idleclaims.checking import need
from idleclaims.kinds import is_dealing


def betters(book, dealing, other):
    """Does some pupil like dealing more than other, and none less?"""
    gaining, losing = _movers(book, dealing, other)
    return losing != () and gaining == ()


def at_least(book, dealing, other):
    """Does each pupil like dealing at least as much as other?"""
    return gainers(book, dealing, other) == ()


def gainers(book, dealing, other):
    """The set of the pupils that like other more than dealing."""
    gaining, _ = _movers(book, dealing, other)
    return gaining


def losers(book, dealing, other):
    """The set of the pupils that like dealing more than other."""
    _, losing = _movers(book, dealing, other)
    return losing


def _movers(book, dealing, other):
    """The pupils that like other more, and those that like dealing more."""
    need(is_dealing(book, dealing), "dealing")
    need(is_dealing(book, other), "other")
    both = list(zip(likings(book, dealing), likings(book, other)))
    gaining = [pupil for pupil, (here, there) in enumerate(both) if there < here]
    losing = [pupil for pupil, (here, there) in enumerate(both) if here < there]
    return (tuple(gaining), tuple(losing))
