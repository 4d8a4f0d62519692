"""What the claims against rightful dealings cost, if each idle pair has a price."""

from idleclaims.checking import need
from idleclaims.demands import need_demands
from idleclaims.idlechecks import need_rightful
from idleclaims.kinds import is_number, is_pupil
from idleclaims.lastbook import idle_pairs, rightful_pairs
from idleclaims.pricing import Pricing
from idleclaims.seating import claims_in


def is_prices(book, thing):
    """Is thing a tuple with a number for each idle pair?"""
    if not isinstance(thing, tuple) or len(thing) != len(idle_pairs(book)):
        return False
    return all(is_number(price) for price in thing)


def price_of(book, prices, dealing):
    """The total of the prices of the pairs that claim against this rightful dealing."""
    need(is_prices(book, prices), "prices")
    need_rightful(book, dealing)
    return price_of_pairs(book, prices, claims_in(book, dealing))


def least_price(book, prices, demands):
    """The least price of the rightful dealings that meet the demands, or None."""
    pricing = priced(book, prices, demands)
    return pricing.least(prices) if pricing.can_meet() else None


def cheapest_deal(book, prices, demands):
    """The dealing with the least price that each pupil likes at least as much as the others with it, or None."""
    pricing = priced(book, prices, demands)
    return pricing.cheapest(prices) if pricing.can_meet() else None


def price_list(book, prices, pupil):
    """For each rightful pair of the pupil, in the sequence of its list, the school and its least price."""
    need(is_prices(book, prices), "prices")
    need(is_pupil(book, pupil), "pupil")
    rightful = rightful_pairs(book)
    schools = [school for school in book[0][pupil] if (pupil, school) in rightful]
    return tuple([(school, Pricing(book, ((pupil, school),)).least(prices)) for school in schools])


def priced(book, prices, demands):
    """The pricing for these demands; refuses prices and demands that are not as stated."""
    need(is_prices(book, prices), "prices")
    need_demands(book, demands)
    return Pricing(book, demands)


def price_of_pairs(book, prices, pairs):
    """The total of the prices of these idle pairs."""
    return sum([price for pair, price in zip(idle_pairs(book), prices) if pair in pairs])
