"""Points 2 and 12 for the fourth fourteen modules: names, sequence and refusals of the parameters."""

from idleclaims.errors import Crowded, NotIdle
from idleclaims.exchange import exchanged, first_claim, unclaimed_by
from idleclaims.exchangekinds import given_and_got, is_exchange
from idleclaims.exchangerings import led, rings_of
from idleclaims.joining import down_from, rightful_better, rightful_worse, turnings_down
from idleclaims.lastchecks import is_between, lets_last
from idleclaims.lastpapers import last_paper, lets_last_paper
from idleclaims.objections import lets_objection, objecting_pairs, objection_to
from idleclaims.pairpapers import idle_paper, lets_pair_paper, pair_paper, rightful_paper
from idleclaims.rings import any_rise_ring, fall_ring, rise_ring
from idleclaims.stepchecker import lets_steps
from idleclaims.unclaimed import at_once, open_with
from tests import samples, truth
from tests.support import (
    Case, Spec, no_dealings, no_pairs_at_all, no_sets_below, not_plain, unusable
)
from tests.test_stepchecker import WAY

FOUR, TWO, STILL, BEST = samples.FOUR, samples.TWO, samples.STILL, samples.BEST
NO_RINGS = (None, 0, True, "", (), [], ((1, 0),), [(1, 0), (0, 1)], ((1, 0), (0, 2)), ((True, 0), (0, 1)), (None, None))


def not_rightful(name):
    """Rows of a Spec for a parameter that must be a rightful dealing of FOUR."""
    wrong = [dealing for dealing in truth.dealings(FOUR) if dealing not in truth.rightfuls(FOUR)]
    return unusable(name, no_dealings(FOUR) + wrong)


def specs_of_exchange():
    plain, dealing = not_plain(FOUR), unusable("dealing", no_dealings(FOUR))
    for call in (unclaimed_by, first_claim, exchanged):
        yield Spec("exchange", call, {"book": FOUR, "plain": STILL, "dealing": BEST}, plain, dealing)
    yield Spec("exchangekinds", is_exchange, {"book": FOUR, "plain": STILL, "dealing": BEST}, plain, dealing)
    wrong = dealing, unusable("other", no_dealings(FOUR)), unusable("pupils", no_sets_below(4))
    right = {"book": FOUR, "dealing": STILL, "other": BEST, "pupils": (0, 2)}
    yield Spec("exchangekinds", given_and_got, right, *wrong)
    right = {"book": FOUR, "dealing": STILL, "ring": ((1, 0), (0, 1))}
    yield Spec("exchangerings", led, right, dealing, unusable("ring", NO_RINGS))
    yield Spec("exchangerings", rings_of, {"book": FOUR, "plain": STILL, "dealing": BEST}, plain, dealing)
    pair = unusable("pair", no_pairs_at_all(FOUR))
    for call in (rise_ring, fall_ring):
        yield Spec("rings", call, {"book": FOUR, "plain": STILL, "pair": (0, 1)}, plain, pair)
    yield Spec("rings", any_rise_ring, {"book": FOUR, "plain": STILL}, plain)
    yield Spec("unclaimed", at_once, {"book": FOUR, "dealing": BEST}, dealing)
    yield Spec("unclaimed", open_with, {"book": FOUR, "pair": (2, 0)}, pair)


def specs_of_papers():
    pair = unusable("pair", no_pairs_at_all(FOUR))
    for call in (lets_last, is_between):
        yield Spec("lastchecks", call, {"book": FOUR, "thing": samples.LESS})
    yield Spec("stepchecker", lets_steps, {"book": FOUR, "thing": WAY})
    rightful = [("pair", one, NotIdle, {"pair": one}) for one in truth.rightful_pairs(FOUR)]
    yield Spec("pairpapers", idle_paper, {"book": FOUR, "pair": (2, 0)}, pair, rightful)
    idle = unusable("pair", truth.idle_pairs(FOUR))
    yield Spec("pairpapers", rightful_paper, {"book": FOUR, "pair": (0, 1)}, pair, idle)
    yield Spec("pairpapers", pair_paper, {"book": FOUR, "pair": (2, 0)}, pair)
    yield Spec("pairpapers", lets_pair_paper, {"book": FOUR, "pair": (2, 0), "thing": ("idle", WAY)}, pair)
    yield Spec("lastpapers", last_paper, {"book": FOUR})
    yield Spec("lastpapers", lets_last_paper, {"book": FOUR, "thing": (WAY, (BEST, STILL))})


def specs_of_rightful_dealings():
    dealing = unusable("dealing", no_dealings(FOUR))
    for call in (objecting_pairs, objection_to):
        yield Spec("objections", call, {"book": FOUR, "dealing": samples.SWAP}, dealing)
    yield Spec("objections", lets_objection, {"book": FOUR, "dealing": samples.SWAP, "thing": None}, dealing)
    for call in (rightful_better, rightful_worse):
        wrong = not_rightful("dealing"), not_rightful("other")
        yield Spec("joining", call, {"book": FOUR, "dealing": BEST, "other": STILL}, *wrong)
    for call in (turnings_down, down_from):
        yield Spec("joining", call, {"book": FOUR, "dealing": BEST}, not_rightful("dealing"))


class ParametersTest(Case):
    def test_all(self):
        for spec in [*specs_of_exchange(), *specs_of_papers(), *specs_of_rightful_dealings()]:
            with self.subTest(call=spec.call.__name__):
                self.hold(spec)

    def test_crowded_comes_first(self):
        self.refuses(Crowded, {"school": 0}, open_with, TWO, None)
        self.refuses(Crowded, {"school": 0}, open_with, TWO, (0, 0))

    def test_the_very_pairs(self):
        pair = (0, 1)
        with self.assertRaises(NotIdle) as caught:
            idle_paper(FOUR, pair)
        self.same(caught.exception.pair, pair)
