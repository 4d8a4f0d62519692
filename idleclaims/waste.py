"""Plain dealings that waste: rings along which every pupil gains, and dealings that better them."""

from idleclaims.asking import pupils_deal
from idleclaims.best import best_deal
from idleclaims.exchangerings import led_along
from idleclaims.rings import any_rise_ring


def wasted_ring(book, plain):
    """A ring at plain each pupil of which wants the school of its pair, or None."""
    return any_rise_ring(book, plain)


def better_deal(book, plain):
    """A dealing that betters plain, or None."""
    # What betters a plain dealing exchanges places: without a ring there is none.
    ring = wasted_ring(book, plain)
    return None if ring is None else led_along(plain, ring)


def is_wasteful(book):
    """Is the pupils' dealing not the best dealing?"""
    return pupils_deal(book) != best_deal(book)
