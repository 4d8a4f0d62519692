"""Points 2 and 12 for the first fourteen modules: names, sequence and refusals of the parameters."""

from idleclaims.arrows import fall_arrows, falls_at, rise_arrows, rises_at
from idleclaims.asking import pupils_deal, refused_asked, refused_asking, schools_deal
from idleclaims.comparing import at_least, betters, gainers, losers
from idleclaims.errors import Crowded, NotPlain
from idleclaims.heights import is_strict, lets_heights, told_heights
from idleclaims.kinds import is_dealing, is_pair, is_pairs
from idleclaims.makers import is_shorter, renamed, side_by_side, sides_changed, without_pairs
from idleclaims.ranks import followers_of, lets_ranks, told_ranks
from idleclaims.reasons import struck_cold, struck_down, struck_rank, struck_up
from idleclaims.stepmakers import steps_of, steps_to
from idleclaims.turning import next_school, points_to, turned, turnings_at
from idleclaims.walks import all_plain, how_many_plain, lets_walk, walk_of
from idleclaims.wanting import claims_against, is_plain, pupil_wants, school_wants
from tests import samples, truth
from tests.support import (
    Case, Spec, no_books, no_dealings, no_numbers, no_pairs_at_all, no_sets_of_pairs, not_plain, unusable
)

NO_ARROWS = (
    None, 0, True, "", "01", [], [(0, 1)], ((0, 1), (0, 1)), ((1, 0), (0, 1)), (0, 1), ((0, 0),), ((0,),), ((0, 1, 2),),
    ((0, 4),), ((4, 0),), ((-1, 0),), ((0, -1),), ((0, None),), ((0, True),), ((False, 1),), ([0, 1],), ("01",),
    ((0, "1"),)
)
# For the arrows at STILL in FOUR, the fall arrows and the followers at STILL in SIDES.
NO_HEIGHTS = (
    None, 0, True, "", "4441", (), [4, 4, 4, 1], (4, 4, 4), (4, 4, 4, 1, 1), (4, 4, 4, True), (4, 4, 4, -1),
    (4, 4, 4, None), (4, 4, 4, 5)
)
NO_FALL_HEIGHTS = (
    None, 0, "", (), [3, 3, 3, 4], (3, 3, 3), (3, 3, 3, 2), (3, 3, 3, True), (3, 3, 4, 4), (3, 3, 3, None)
)
NO_RANKS = (
    None, 0, True, "", (), (None, None, None), [None, None, None, 0], (0, None, None, 0), (None, None, None, False),
    (None, None, None, -1)
)
NO_ORDERS = (
    None, 0, True, "", "012", (), (0, 1), (0, 1, 1), (0, 1, 2, 3), (1, 2, 3), [0, 1, 2], (0, 1, -1), (0, True, 2),
    (False, 1, 2), (0, 1, "2"), (0, 1, None), ((0,), 1, 2)
)


def specs():
    four, two, odd, sides = samples.FOUR, samples.TWO, samples.ODD, samples.SIDES
    still, best, above = samples.STILL, samples.BEST, samples.ABOVE
    up = truth.rise_arrows(four, still)
    yield Spec("kinds", is_pair, {"book": four, "thing": (3, 0)})
    yield Spec("kinds", is_pairs, {"book": four, "thing": ((3, 0),)})
    yield Spec("kinds", is_dealing, {"book": four, "thing": best})
    yield Spec("makers", without_pairs, {"book": four, "pairs": ((3, 0),)}, unusable("pairs", no_sets_of_pairs(four)))
    yield Spec("makers", side_by_side, {"book": four, "other": two}, unusable("other", no_books()))
    yield Spec("makers", is_shorter, {"book": four, "thing": samples.LESS})
    yield Spec("makers", sides_changed, {"book": four})
    wrong = unusable("pupils", NO_ORDERS), unusable("schools", [order for order in NO_ORDERS if order != (0, 1)])
    yield Spec("makers", renamed, {"book": two, "pupils": (2, 0, 1), "schools": (1, 0)}, *wrong)
    for call in (pupil_wants, school_wants):
        wrong = unusable("dealing", no_dealings(two)), unusable("pair", no_pairs_at_all(two))
        yield Spec("wanting", call, {"book": two, "dealing": above, "pair": (0, 0)}, *wrong)
    for call in (claims_against, is_plain):
        yield Spec("wanting", call, {"book": four, "dealing": best}, unusable("dealing", no_dealings(four)))
    for call in (betters, at_least, gainers, losers):
        wrong = unusable("dealing", no_dealings(two)), unusable("other", no_dealings(two))
        yield Spec("comparing", call, {"book": two, "dealing": above, "other": ((0, 0),)}, *wrong)
    for call in (pupils_deal, schools_deal, refused_asked, refused_asking):
        yield Spec("asking", call, {"book": four})
    for call in (next_school, points_to):
        wrong = not_plain(odd), unusable("pupil", no_numbers(2))
        yield Spec("turning", call, {"book": odd, "plain": ((0, 1), (1, 0)), "pupil": 1}, *wrong)
    yield Spec("turning", turnings_at, {"book": two, "plain": above}, not_plain(two))
    wrong = not_plain(odd), unusable("turning", [None, (1, 0), [0, 1], (False, True), (), "01"])
    yield Spec("turning", turned, {"book": odd, "plain": ((0, 1), (1, 0)), "turning": (0, 1)}, *wrong)
    for call in (walk_of, all_plain, how_many_plain):
        yield Spec("walks", call, {"book": odd})
    yield Spec("walks", lets_walk, {"book": odd, "thing": (((0, 1), (1, 0)), ((0, 0), (1, 1)))})
    for call in (rises_at, falls_at, rise_arrows, fall_arrows):
        yield Spec("arrows", call, {"book": two, "plain": above}, not_plain(two))
    wrong = unusable("arrows", NO_ARROWS), unusable("heights", NO_HEIGHTS)
    yield Spec("heights", told_heights, {"book": four, "arrows": up}, wrong[0])
    yield Spec("heights", lets_heights, {"book": four, "arrows": up, "thing": (1, 1, 1, 2)}, wrong[0])
    yield Spec("heights", is_strict, {"book": four, "arrows": up, "heights": (4, 4, 4, 1)}, *wrong)
    wrong = not_plain(sides), unusable("school", no_numbers(4))
    yield Spec("ranks", followers_of, {"book": sides, "plain": still, "school": 0}, *wrong)
    yield Spec("ranks", told_ranks, {"book": sides, "plain": still}, not_plain(sides))
    yield Spec("ranks", lets_ranks, {"book": sides, "plain": still, "thing": (None, None, None, 0)}, not_plain(sides))
    yield Spec("reasons", struck_cold, {"book": two, "plain": above}, not_plain(two))
    wrong = not_plain(four), unusable("heights", NO_HEIGHTS)
    yield Spec("reasons", struck_up, {"book": four, "plain": still, "heights": (4, 4, 4, 1)}, *wrong)
    wrong = not_plain(sides), unusable("heights", NO_FALL_HEIGHTS)
    yield Spec("reasons", struck_down, {"book": sides, "plain": still, "heights": (3, 3, 3, 4)}, *wrong)
    wrong = not_plain(sides), unusable("ranks", NO_RANKS)
    yield Spec("reasons", struck_rank, {"book": sides, "plain": still, "ranks": (None, None, None, 0)}, *wrong)
    yield Spec("stepmakers", steps_of, {"book": four})
    yield Spec("stepmakers", steps_to, {"book": four, "pair": (2, 0)}, unusable("pair", no_pairs_at_all(four)))


class ParametersTest(Case):
    def test_all(self):
        for spec in specs():
            with self.subTest(call=spec.call.__name__):
                self.hold(spec)

    def test_crowded(self):
        self.refuses(Crowded, {"school": 0}, sides_changed, samples.TWO)
        self.refuses(Crowded, {"school": 1}, sides_changed, (((0,),), ((0,), (), ()), (1, 10 ** 29, 3)))

    def test_first_claiming_pair(self):
        self.refuses(NotPlain, {"pair": (0, 0)}, turnings_at, samples.FOUR, ())
        self.refuses(NotPlain, {"pair": (3, 0)}, rises_at, samples.FOUR, samples.BEST)
        self.refuses(NotPlain, {"pair": (0, 2)}, turnings_at, samples.LESS, ((0, 0), (1, 1), (3, 3)))

    def test_no_pairs_and_no_dealing_are_usable(self):
        for book in samples.EDGES + samples.DOCUMENT:
            self.same(without_pairs(book, ()), book)
            self.same(claims_against(book, ()), truth.claims(book, ()))
            self.same(told_heights(book, ()), (1,) * len(book[1]))
