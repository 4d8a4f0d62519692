"""Papers that show the least price at which demands are met."""

from idleclaims.checking import is_plain_dealing, need
from idleclaims.demands import is_met, need_demands
from idleclaims.errors import InvalidPaper
from idleclaims.kinds import is_integer, is_pairs
from idleclaims.lastbook import idle_pairs, last_book
from idleclaims.prices import is_prices, price_of_pairs, priced
from idleclaims.pricing import Pricing
from idleclaims.seating import claims_in


def price_paper(book, prices, demands):
    """A cheapest rightful dealing that meets the demands, and blocks that show that it is cheapest."""
    pricing = priced(book, prices, demands)
    need(pricing.can_meet(), "demands")
    return (pricing.cheapest(prices), pricing.blocks(prices))


def lets_price(book, prices, demands, thing):
    """The price of the dealing that the paper shows to be a cheapest one."""
    need(is_prices(book, prices), "prices")
    need_demands(book, demands)
    if not isinstance(thing, tuple) or len(thing) != 2:
        raise InvalidPaper("shape", -1)
    dealing, blocks = thing
    if not is_plain_dealing(last_book(book), dealing) or not is_met(book, demands, dealing):
        raise InvalidPaper("dealing", 0)
    if not isinstance(blocks, tuple):
        raise InvalidPaper("blocks", 1)
    idle = idle_pairs(book)
    pricing = Pricing(book, demands)
    for k, row in enumerate(blocks):
        if not _is_row(book, idle, row):
            raise InvalidPaper("row", k)
        if not pricing.is_block(row[1]):
            raise InvalidPaper("block", k)
    for pair, price in zip(idle, prices):
        if sum([amount for amount, block in blocks if pair in block]) > price:
            raise InvalidPaper("price", pair)
    price = price_of_pairs(book, prices, claims_in(book, dealing))
    if sum([amount for amount, _ in blocks]) != price:
        raise InvalidPaper("total", -1)
    return price


def _is_row(book, idle, thing):
    """Is thing a tuple of an integer from 1 on and a set of idle pairs?"""
    if not isinstance(thing, tuple) or len(thing) != 2:
        return False
    amount, pairs = thing
    if not is_integer(amount) or amount < 1 or not is_pairs(book, pairs):
        return False
    return all(pair in idle for pair in pairs)
