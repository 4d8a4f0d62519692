"""Blocks: sets of idle pairs of which some pair claims wherever demands are met."""

from idleclaims.checking import need
from idleclaims.demands import need_demands
from idleclaims.idlechecks import need_waived
from idleclaims.pricing import Pricing
from idleclaims.prices import priced


def is_block(book, demands, pairs):
    """Does one of these idle pairs at least claim against each rightful dealing that meets the demands?"""
    need_demands(book, demands)
    need_waived(book, pairs, "pairs")
    return Pricing(book, demands).is_block(pairs)


def blocks_of(book, prices, demands):
    """Amounts with blocks that together are the least price, no idle pair in blocks of more than its price."""
    pricing = priced(book, prices, demands)
    need(pricing.can_meet(), "demands")
    return pricing.blocks(prices)
