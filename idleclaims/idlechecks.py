"""The refusals of parameters that should be idle pairs."""

from idleclaims.checking import need
from idleclaims.errors import NotIdle
from idleclaims.kinds import is_pairs
from idleclaims.lastbook import rightful_pairs


def need_waived(book, waived):
    """Refuses a parameter waived that is no set of idle pairs."""
    need(is_pairs(book, waived), "waived")
    rightful = rightful_pairs(book)
    for pair in waived:
        if pair in rightful:
            raise NotIdle(pair)
