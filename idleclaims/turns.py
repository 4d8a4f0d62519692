"""The turns of a book, and the rightful dealings told by the turns that are done in them."""

from idleclaims.checking import need
from idleclaims.idlechecks import need_rightful
from idleclaims.kinds import is_below, is_set_below
from idleclaims.turnorder import TurnOrder


def turns_of(book):
    """The turns on the way down from the best dealing, each a set of triples (pupil, from, to)."""
    return TurnOrder(book).turns


def ahead_of(book, turn):
    """The set of the numbers of the other turns that are done wherever this turn is done."""
    order = TurnOrder(book)
    need(is_below(turn, len(order.turns)), "turn")
    return order.all_ahead()[turn]


def done_in(book, dealing):
    """The set of the numbers of the turns that are done in this rightful dealing."""
    need_rightful(book, dealing)
    return TurnOrder(book).done(dealing)


def dealing_by(book, turns):
    """The rightful dealing in which just these turns are done."""
    order = TurnOrder(book)
    need(is_set_below(turns, len(order.turns)), "turns")
    ahead = order.all_ahead()
    need(all(other in turns for turn in turns for other in ahead[turn]), "turns")
    return order.made_by(turns)
