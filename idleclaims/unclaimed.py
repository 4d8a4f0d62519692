"""Plain dealings that claim, and dealings against which no plain one claims."""

from idleclaims.asking import pupils_deal, schools_deal
from idleclaims.checking import need, need_one_seat
from idleclaims.exchangerings import led_along
from idleclaims.kinds import is_dealing, is_pair
from idleclaims.pairkinds import kind_of
from idleclaims.rings import fall_ring, rise_ring
from idleclaims.seating import claims_in
from idleclaims.showing import plain_with
from idleclaims.walks import walk_of


def at_once(book, dealing):
    """A plain dealing that holds a pair that claims against the dealing, or None."""
    need(is_dealing(book, dealing), "dealing")
    return first_holding(book, claims_in(book, dealing))


def open_with(book, pair):
    """A dealing with the pair against which no pair of a plain dealing claims, or None; for one seat each."""
    need_one_seat(book)
    need(is_pair(book, pair), "pair")
    kind = kind_of(book, pair)
    if kind == "plain":
        return plain_with(book, pair)
    if kind == "rise":
        # Along such a ring no pupil loses, so that none wants a place of a plain dealing.
        first = pupils_deal(book)
        return _led_or_none(first, rise_ring(book, first, pair))
    if kind == "fall":
        # Along such a ring no school loses, so that none wants a pupil of a plain dealing.
        last = schools_deal(book)
        return _led_or_none(last, fall_ring(book, last, pair))
    # A pair of the kind "cold" is loose.
    return None


def first_holding(book, pairs):
    """The first dealing of the walk that holds one of these pairs; None if no plain dealing does."""
    # The dealings of one walk have all pairs that are in plain dealings.
    for plain in walk_of(book):
        if any(pair in plain for pair in pairs):
            return plain
    return None


def _led_or_none(dealing, ring):
    return None if ring is None else led_along(dealing, ring)
