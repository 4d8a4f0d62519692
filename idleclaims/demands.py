"""Demands: which pupils must like their places at least as much as which schools."""

from idleclaims.best import best_deal
from idleclaims.bookparts import likings
from idleclaims.checking import need
from idleclaims.kinds import is_dealing, is_pairs
from idleclaims.turnorder import TurnOrder


def meets(book, demands, dealing):
    """Does the dealing give each pupil of the demands a place that it likes as much as the school or more?"""
    need_demands(book, demands)
    need(is_dealing(book, dealing), "dealing")
    return is_met(book, demands, dealing)


def can_meet(book, demands):
    """Does a rightful dealing meet the demands?"""
    need_demands(book, demands)
    return is_met(book, demands, best_deal(book))


def broken_by(book, demands):
    """The set of the numbers of the turns that may not be done if the demands are to be met."""
    need_demands(book, demands)
    order = TurnOrder(book)
    return breaking(order, order.all_ahead(), demands)


def need_demands(book, demands):
    """Refuses a parameter demands that is no set of pairs."""
    need(is_pairs(book, demands), "demands")


def is_met(book, demands, dealing):
    """Does the dealing meet the demands, no parameter being judged?"""
    liked = likings(book, dealing)
    return all([liked[pupil] <= book[0][pupil].index(school) for pupil, school in demands])


def breaking(order, ahead, demands):
    """The turns that may not be done, for turns laid out already."""
    # Of the dealings in which a turn is done, the pupils like that most in which nothing is done but what must be.
    # What is ahead of a turn has a lesser number.
    firsts = [order.made_by(others + (turn,)) for turn, others in enumerate(ahead)]
    return tuple([turn for turn, dealing in enumerate(firsts) if not is_met(order.book, demands, dealing)])
