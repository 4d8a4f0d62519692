"""Points 2 and 12 for the fifth fourteen modules: names, sequence and refusals of the parameters."""

from idleclaims.bestpapers import best_paper, lets_best
from idleclaims.blocks import blocks_of, is_block
from idleclaims.demands import broken_by, can_meet, meets
from idleclaims.errors import NotIdle
from idleclaims.gains import gain_rings, gains_of
from idleclaims.notpapers import dealing_paper, lets_dealing_paper
from idleclaims.prices import cheapest_deal, is_prices, least_price, price_list, price_of
from idleclaims.sameplaced import filled_rightful, free_held, placed_rightful
from idleclaims.spans import silent_pairs, span_of, spans_of
from idleclaims.turns import ahead_of, dealing_by, done_in, turns_of
from idleclaims.waivehearing import can_name, wins_under
from idleclaims.waivers import all_idle_of, claims_left, is_allowed, is_waiver, least_waiver
from idleclaims.waste import better_deal, is_wasteful, wasted_ring
from idleclaims.wastepapers import lets_waste, waste_paper
from tests import samples, truth, turnbooks
from tests.support import (
    Case, Spec, no_dealings, no_numbers, no_pairs_at_all, no_sets_below, no_sets_of_pairs, not_plain, unusable
)
from tests.test_parameters_fourth import not_rightful
from tests.test_parameters_more import waived
from tests.test_stepchecker import WAY

FOUR, LINK, STILL, BEST = samples.FOUR, samples.LINK, samples.STILL, samples.BEST
# What is no tuple with a number for each of the two idle pairs of LINK.
NO_PRICES = (
    None, 0, True, "", "35", [], [3, 5], (), (3,), (3, 5, 1), (3, -1), (-1, 5), (3, None), (True, 5), (3, False),
    (3, "5"), ((3,), 5), ((3, 5),), ([3], [5])
)


def named(name, rows):
    """Rows of a Spec for a parameter waived, for one with another name; its pairs are refused likewise."""
    return [(name, value, error, {**fields, "word": name} if "word" in fields else fields)
            for _, value, error, fields in rows]


def not_idle(book):
    """Rows of a Spec for a parameter pair that must be idle."""
    return unusable("pair", no_pairs_at_all(book)) + [
        ("pair", pair, NotIdle, {"pair": pair}) for pair in truth.rightful_pairs(book)
    ]


def specs_of_papers():
    plain, dealing = not_plain(FOUR), unusable("dealing", no_dealings(FOUR))
    for call in (wasted_ring, better_deal):
        yield Spec("waste", call, {"book": FOUR, "plain": STILL}, plain)
    yield Spec("waste", is_wasteful, {"book": FOUR})
    for call in (gains_of, gain_rings):
        yield Spec("gains", call, {"book": FOUR})
    for call in (placed_rightful, filled_rightful, free_held):
        yield Spec("sameplaced", call, {"book": FOUR})
    yield Spec("bestpapers", best_paper, {"book": FOUR})
    yield Spec("bestpapers", lets_best, {"book": FOUR, "thing": (WAY, BEST)})
    yield Spec("wastepapers", waste_paper, {"book": FOUR, "plain": STILL}, plain)
    right = {"book": FOUR, "plain": STILL, "thing": ("ring", ((1, 0), (0, 1)))}
    yield Spec("wastepapers", lets_waste, right, plain)
    yield Spec("notpapers", dealing_paper, {"book": FOUR, "dealing": BEST}, dealing)
    right = {"book": FOUR, "dealing": BEST, "thing": ("rightful", WAY)}
    yield Spec("notpapers", lets_dealing_paper, right, dealing)


def specs_of_waivers():
    dealing = unusable("dealing", no_dealings(FOUR))
    yield Spec("waivers", is_waiver, {"book": FOUR, "thing": ((3, 0),)})
    yield Spec("waivers", all_idle_of, {"book": FOUR, "pupil": 3}, unusable("pupil", no_numbers(4)))
    for call in (claims_left, is_allowed):
        right = {"book": FOUR, "waived": ((3, 0),), "dealing": samples.SWAP}
        yield Spec("waivers", call, right, waived(FOUR), dealing)
    yield Spec("waivers", least_waiver, {"book": FOUR, "dealing": BEST}, not_rightful("dealing"))
    right = {"book": FOUR, "waived": ((3, 0),), "dealing": samples.SWAP, "other": BEST}
    yield Spec("waivehearing", can_name, right, waived(FOUR), dealing, unusable("other", no_dealings(FOUR)))
    yield Spec("waivehearing", wins_under, {"book": FOUR, "waived": ((3, 0),)}, waived(FOUR))


def specs_of_turns():
    chained = [book for book in turnbooks.TURNING if turnbooks.ahead(book)[1] == (0,)][0]
    many = len(turnbooks.turns(chained))
    yield Spec("turns", turns_of, {"book": LINK})
    yield Spec("turns", ahead_of, {"book": LINK, "turn": 1}, unusable("turn", no_numbers(2)))
    yield Spec("turns", done_in, {"book": FOUR, "dealing": BEST}, not_rightful("dealing"))
    wrong = no_sets_below(many) + [(1,), (many,), (0, many), (0, -1), (None, None)]
    yield Spec("turns", dealing_by, {"book": chained, "turns": (0, 1)}, unusable("turns", wrong))
    yield Spec("spans", span_of, {"book": FOUR, "pair": (2, 0)}, not_idle(FOUR))
    for call in (spans_of, silent_pairs):
        yield Spec("spans", call, {"book": LINK})


def specs_of_prices():
    demands, wrong_prices = unusable("demands", no_sets_of_pairs(LINK)), unusable("prices", NO_PRICES)
    dealing = unusable("dealing", no_dealings(LINK))
    right = {"book": LINK, "demands": ((2, 3),), "dealing": ()}
    yield Spec("demands", meets, right, demands, dealing)
    for call in (can_meet, broken_by):
        yield Spec("demands", call, {"book": LINK, "demands": ((2, 3),)}, demands)
    yield Spec("prices", is_prices, {"book": LINK, "thing": (3, 5)})
    right = {"book": LINK, "prices": (3, 5), "dealing": turnbooks.rightfuls(LINK)[0]}
    yield Spec("prices", price_of, right, wrong_prices, dealing + unusable("dealing", [(), ((0, 0),)]))
    right = {"book": LINK, "prices": (3, 5), "demands": ((2, 3),)}
    for call in (least_price, cheapest_deal):
        yield Spec("prices", call, right, wrong_prices, demands)
    yield Spec("prices", price_list, {"book": LINK, "prices": (3, 5), "pupil": 2}, wrong_prices,
               unusable("pupil", no_numbers(5)))
    right = {"book": LINK, "demands": ((2, 3),), "pairs": ((0, 2),)}
    yield Spec("blocks", is_block, right, demands, named("pairs", waived(LINK)))
    # Demands that no rightful dealing meets.
    unmet = unusable("demands", [((4, 0),), ((0, 0), (4, 0)), truth.pairs(LINK)])
    right = {"book": LINK, "prices": (3, 5), "demands": ((2, 3),)}
    yield Spec("blocks", blocks_of, right, wrong_prices, demands + unmet)


class ParametersTest(Case):
    def test_all(self):
        for spec in [*specs_of_papers(), *specs_of_waivers(), *specs_of_turns(), *specs_of_prices()]:
            with self.subTest(call=spec.call.__name__):
                self.hold(spec)

    def test_the_very_pairs(self):
        pairs = ((0, 2), (2, 2), (4, 0))
        with self.assertRaises(NotIdle) as caught:
            is_block(LINK, (), pairs)
        self.assertIs(caught.exception.pair, pairs[1])
        with self.assertRaises(NotIdle) as caught:
            span_of(LINK, pairs[1])
        self.assertIs(caught.exception.pair, pairs[1])
