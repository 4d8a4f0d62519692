"""The refusals of parameters that should be idle pairs, or rightful dealings."""

from idleclaims.checking import is_plain_dealing, need
from idleclaims.errors import NotIdle
from idleclaims.kinds import is_pair, is_pairs
from idleclaims.lastbook import last_book, rightful_pairs


def need_idle(book, pair):
    """Refuses a parameter pair that is no idle pair."""
    need(is_pair(book, pair), "pair")
    _refuse_rightful(book, (pair,))


def need_waived(book, waived, name="waived"):
    """Refuses a parameter, mostly called waived, that is no set of idle pairs."""
    need(is_pairs(book, waived), name)
    _refuse_rightful(book, waived)


def need_rightful(book, dealing):
    """Refuses a parameter dealing that is no rightful dealing."""
    need(is_plain_dealing(last_book(book), dealing), "dealing")


def _refuse_rightful(book, pairs):
    rightful = rightful_pairs(book)
    for pair in pairs:
        if pair in rightful:
            raise NotIdle(pair)
