"""From which turn on, and up to which one, idle pairs claim against the rightful dealings."""

from idleclaims.idlechecks import need_idle
from idleclaims.lastbook import idle_pairs
from idleclaims.seating import Seating
from idleclaims.turnorder import TurnOrder


def span_of(book, pair):
    """The numbers of the turns that open and close the claim of the idle pair."""
    need_idle(book, pair)
    _, opens, closes = _span(_seatings(TurnOrder(book)), pair)
    return (opens, closes)


def spans_of(book):
    """Triples of an idle pair and the numbers of the turns that open and close its claim."""
    return spans_in(TurnOrder(book))


def silent_pairs(book):
    """The set of the idle pairs that claim against no rightful dealing."""
    order = TurnOrder(book)
    ahead = order.all_ahead()
    return tuple([pair for pair, opens, closes in spans_in(order) if _is_silent(ahead, opens, closes)])


def spans_in(order):
    """The spans of all idle pairs, for turns laid out already."""
    seatings = _seatings(order)
    return tuple([_span(seatings, pair) for pair in idle_pairs(order.book)])


def _seatings(order):
    return [Seating(order.book, dealing) for dealing in order.stages]


def _span(seatings, pair):
    # Once the pupil wants, or the school does not, it stays so on the way down: one turn makes it so.
    pupil, school = pair
    wanting = [k for k, seating in enumerate(seatings) if seating.would_go(pupil, school)]
    turning_down = [k for k, seating in enumerate(seatings) if not seating.would_take(school, pupil)]
    many = len(seatings)
    return (pair, min(wanting, default=many) - 1, min(turning_down, default=many) - 1)


def _is_silent(ahead, opens, closes):
    """Is the claim closed wherever it is open?"""
    if opens == len(ahead) or closes == -1:
        return True
    return opens >= 0 and closes in ahead[opens] + (opens,)
