"""Points 2 and 12 for the last fourteen modules: names, sequence and refusals of the parameters.

Those of the classes stand beside their other tests.
"""

from idleclaims.answers import winning_answer
from idleclaims.courtpapers import court_paper, lets_court
from idleclaims.desk import answered_line
from idleclaims.exact import best_answer, long_answer, moves_of
from idleclaims.letters import letter_lines, letter_of
from idleclaims.naming import heard_claims, is_ended, lets_hearing, may_name
from idleclaims.outcomes import bound_of, outcome_of, winning_level
from idleclaims.playing import answered, played_out
from idleclaims.pricepapers import lets_price, price_paper
from idleclaims.sides import side_moves
from idleclaims.tables import longest, outcome_table
from tests import samples, truth
from tests.support import Case, Spec, no_books, no_dealings, no_numbers, no_sets_of_pairs, unusable
from tests.test_parameters_fifth import NO_PRICES
from tests.test_parameters_third import NO_STRINGS
from tests.test_prices import BOTH, LINK, MID
from tests.test_stepchecker import WAY

FOUR, STILL, BEST, SWAP = samples.FOUR, samples.STILL, samples.BEST, samples.SWAP
THREE = ((3, 0),)
NO_HEARINGS = (
    None, 0, True, "", "ab", (), [], [SWAP], (None,), (SWAP, None), ([],), (STILL, BEST), (SWAP, SWAP),
    (SWAP, BEST, ()), (((True, 0),),), SWAP, (SWAP, BEST, STILL)
)


def specs_of_prices():
    right = {"book": LINK, "prices": (3, 5), "demands": ((2, 3),)}
    prices, demands = unusable("prices", NO_PRICES), unusable("demands", no_sets_of_pairs(LINK))
    unmet = unusable("demands", [((4, 0),), ((0, 0), (4, 0)), truth.pairs(LINK)])
    yield Spec("pricepapers", price_paper, right, prices, demands + unmet)
    yield Spec("pricepapers", lets_price, {**right, "thing": (MID, ((3, BOTH),))}, prices, demands)


def specs_of_hearings():
    dealing, other = unusable("dealing", no_dealings(FOUR)), unusable("other", no_dealings(FOUR))
    for call in (may_name, heard_claims):
        yield Spec("naming", call, {"book": FOUR, "dealing": SWAP, "other": BEST}, dealing, other)
    yield Spec("naming", lets_hearing, {"book": FOUR, "thing": (SWAP, BEST)})
    yield Spec("naming", is_ended, {"book": FOUR, "hearing": (SWAP, BEST)}, unusable("hearing", NO_HEARINGS))
    for call in (outcome_of, winning_level, bound_of):
        yield Spec("outcomes", call, {"book": FOUR, "dealing": SWAP}, dealing)
    yield Spec("answers", winning_answer, {"book": FOUR, "dealing": SWAP}, dealing)
    for call in (moves_of, long_answer, best_answer):
        yield Spec("exact", call, {"book": FOUR, "dealing": BEST}, dealing)
    yield Spec("playing", played_out, {"book": FOUR, "dealing": SWAP}, dealing)
    lost = unusable("dealing", truth.rightfuls(FOUR))
    named = [None, 0, True, "", [], [THREE], {}, (STILL,), (None,), (THREE[0],), (BEST, THREE), ([],), (((3, False),),)]
    right = {"book": FOUR, "dealing": SWAP, "named": (THREE,)}
    yield Spec("playing", answered, right, dealing + lost, unusable("named", named))
    for call in (outcome_table, longest):
        yield Spec("tables", call, {"book": FOUR})


def specs_of_papers():
    dealing = unusable("dealing", no_dealings(FOUR))
    yield Spec("courtpapers", court_paper, {"book": FOUR, "dealing": SWAP}, dealing)
    yield Spec("courtpapers", lets_court, {"book": FOUR, "dealing": BEST, "thing": ("lost", WAY)}, dealing)
    right = {"book": FOUR, "other": samples.ODD, "dealing": SWAP, "beside": ()}
    beside = unusable("beside", no_dealings(samples.ODD))
    yield Spec("sides", side_moves, right, unusable("other", no_books()), dealing, beside)
    for call in (letter_of, letter_lines):
        yield Spec("letters", call, {"book": FOUR, "pupil": 3}, unusable("pupil", no_numbers(4)))
    yield Spec("desk", answered_line, {"book": FOUR, "text": "pair 2 0"}, unusable("text", NO_STRINGS))


class ParametersTest(Case):
    def test_all(self):
        for spec in [*specs_of_prices(), *specs_of_hearings(), *specs_of_papers()]:
            with self.subTest(call=spec.call.__name__):
                self.hold(spec)
