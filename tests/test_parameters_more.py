"""Points 2 and 12 for the second fourteen modules: names, sequence and refusals of the parameters."""

from idleclaims.best import at_best, best_by_rises, best_deal, worst_deal
from idleclaims.bestunder import best_under, kept_by, place_under
from idleclaims.books import how_many_pupils, how_many_schools, likes_pupil, likes_school, pairs_of
from idleclaims.comparedbooks import changed_pairs, moved_places, same_rightful
from idleclaims.dealings import dealing_of, free_seats, held_by, moved, place_of, places_of
from idleclaims.errors import Crowded, NotIdle, NotTold
from idleclaims.ladder import how_many_levels, ladder_of, level_book, level_of
from idleclaims.lastbook import idle_pairs, is_last, last_book, rightful_pairs
from idleclaims.loose import is_loose, loose_by_all, told_by, told_pairs
from idleclaims.lowering import best_first, is_lowered, moved_roll, moved_wish, trimmed
from idleclaims.numbering import dealing_at, how_many_dealings, number_of
from idleclaims.officeevents import is_event, is_log
from idleclaims.rightful import all_rightful, how_many_rightful, is_rightful, rightful_level, rightful_with
from idleclaims.showing import cold_at, plain_with
from idleclaims.striking import is_end, strike, strike_all, struck_by
from tests import samples, truth
from tests.support import (
    Case, Spec, no_books, no_dealings, no_numbers, no_pairs_at_all, no_sets_below, no_sets_of_pairs, unusable
)

NO_PLACES = (
    None, 0, True, "", "10", (), (1, 0), (1, 0, None, None), [1, 0, None], (1, 1, None), (0, 0, 0), (1, 0, 2),
    (1, 0, -1), (1, 0, "0"), (1, False, None), (True, 0, None), (1, (0,), None), (1, [0], None)
)
NO_DIGITS = (None, 0, True, "", "51", [], [5, 1], (5, -1), (True,), (None,), ("5",), ((5,),))


def not_told(book):
    """Rows of a Spec for a pair, and those for a set of pairs, that are not told."""
    wrong = [pair for pair in truth.pairs(book) if pair not in truth.told(book)]
    ones = [("pair", pair, NotTold, {"pair": pair}) for pair in wrong]
    told = truth.told(book)
    sets = [("pairs", tuple(sorted({*told, pair})), NotTold, {"pair": pair}) for pair in wrong]
    return ones, sets + [("pairs", tuple(wrong), NotTold, {"pair": wrong[0]})]


def waived(book):
    """Rows of a Spec for a parameter waived."""
    rows = unusable("waived", no_sets_of_pairs(book))
    for pair in truth.rightful_pairs(book):
        some = tuple(sorted({*truth.idle_pairs(book), pair}))
        rows += [("waived", (pair,), NotIdle, {"pair": pair}), ("waived", some, NotIdle, {"pair": pair})]
    return rows + [("waived", truth.pairs(book), NotIdle, {"pair": truth.rightful_pairs(book)[0]})]


def specs_of_books():
    four, two, odd = samples.FOUR, samples.TWO, samples.ODD
    for call in (how_many_pupils, how_many_schools, pairs_of):
        yield Spec("books", call, {"book": four})
    for call, owner in ((likes_school, "pupil"), (likes_pupil, "school")):
        listed = four[0][1] if owner == "pupil" else four[1][1]
        others = [*range(len(listed), 6), *no_numbers()]
        wrong = unusable(owner, no_numbers(4)), unusable("one", others), unusable("other", others)
        yield Spec("books", call, {"book": four, owner: 1, "one": 0, "other": 1}, *wrong)
    dealing = unusable("dealing", no_dealings(two))
    right = {"book": two, "dealing": samples.ABOVE}
    yield Spec("dealings", place_of, {**right, "pupil": 2}, dealing, unusable("pupil", no_numbers(3)))
    yield Spec("dealings", places_of, right, dealing)
    for call in (held_by, free_seats):
        yield Spec("dealings", call, {**right, "school": 1}, dealing, unusable("school", no_numbers(2)))
    yield Spec("dealings", dealing_of, {"book": two, "places": (1, 0, None)}, unusable("places", NO_PLACES))
    wrong = no_sets_of_pairs(two) + [((0, 0), (0, 1)), ((0, 1), (2, 1)), ((0, 0),), ((2, 1),)]
    yield Spec("dealings", moved, {**right, "pairs": ((0, 0), (2, 1))}, dealing, unusable("pairs", wrong))
    yield Spec("numbering", how_many_dealings, {"book": odd})
    yield Spec("numbering", dealing_at, {"book": odd, "many": 6}, unusable("many", no_numbers(7)))
    yield Spec("numbering", number_of, right, dealing)


def specs_of_pairs():
    four, odd = samples.FOUR, samples.ODD
    pair = unusable("pair", no_pairs_at_all(four))
    for call in (plain_with, cold_at):
        yield Spec("showing", call, {"book": four, "pair": (1, 1)}, pair)
    for call in (told_pairs, loose_by_all):
        yield Spec("loose", call, {"book": four})
    for call in (told_by, is_loose):
        yield Spec("loose", call, {"book": four, "pair": (3, 0)}, pair)
    ones, sets = not_told(four)
    yield Spec("striking", strike, {"book": four, "pair": (3, 0)}, pair, ones)
    wrong = unusable("pairs", no_sets_of_pairs(four)), sets
    yield Spec("striking", strike_all, {"book": four, "pairs": ((3, 0),)}, *wrong)
    yield Spec("striking", struck_by, {"book": four, "digits": (5, 1)}, unusable("digits", NO_DIGITS))
    yield Spec("striking", is_end, {"book": four})
    for call in (ladder_of, how_many_levels):
        yield Spec("ladder", call, {"book": four})
    yield Spec("ladder", level_book, {"book": four, "level": 2}, unusable("level", no_numbers(3)))
    yield Spec("ladder", level_of, {"book": four, "pair": (2, 0)}, pair)
    for call in (last_book, is_last, rightful_pairs, idle_pairs):
        yield Spec("lastbook", call, {"book": four})
    for call in (is_rightful, rightful_level):
        wrong = unusable("dealing", no_dealings(four))
        yield Spec("rightful", call, {"book": four, "dealing": samples.BEST}, wrong)
    for call in (all_rightful, how_many_rightful):
        yield Spec("rightful", call, {"book": odd})
    yield Spec("rightful", rightful_with, {"book": four, "pair": (1, 0)}, pair)


def specs_of_the_best():
    four, two = samples.FOUR, samples.TWO
    for call in (best_deal, worst_deal, best_by_rises):
        yield Spec("best", call, {"book": two})
    pupil, pupils = unusable("pupil", no_numbers(4)), unusable("pupils", no_sets_below(4))
    yield Spec("best", at_best, {"book": four, "pupil": 0}, pupil)
    right = {"book": four, "waived": ((3, 0),)}
    yield Spec("bestunder", best_under, right, waived(four))
    yield Spec("bestunder", place_under, {**right, "pupil": 0}, waived(four), pupil)
    yield Spec("bestunder", kept_by, {**right, "pupils": (0, 3)}, waived(four), pupils)
    listed, place = unusable("school", [*range(3, 6), *no_numbers()]), unusable("place", no_numbers(3))
    yield Spec("lowering", moved_wish, {"book": four, "pupil": 0, "school": 2, "place": 0}, pupil, listed, place)
    school, place = unusable("school", no_numbers(4)), unusable("place", no_numbers(2))
    listed = unusable("pupil", [*range(2, 6), *no_numbers()])
    yield Spec("lowering", moved_roll, {"book": four, "school": 1, "pupil": 0, "place": 0}, school, listed, place)
    yield Spec("lowering", is_lowered, {"book": four, "thing": samples.LESS})
    for call in (best_first, trimmed):
        yield Spec("lowering", call, {"book": four, "pupils": (0, 2)}, pupils)
    for call in (same_rightful, changed_pairs, moved_places):
        yield Spec("comparedbooks", call, {"book": four, "other": two}, unusable("other", no_books()))
    yield Spec("officeevents", is_event, {"thing": ("pupil",)})
    yield Spec("officeevents", is_log, {"thing": (("pupil",),)})


class ParametersTest(Case):
    def test_all(self):
        for spec in [*specs_of_books(), *specs_of_pairs(), *specs_of_the_best()]:
            with self.subTest(call=spec.call.__name__):
                self.hold(spec)

    def test_crowded_comes_first(self):
        self.refuses(Crowded, {"school": 0}, is_loose, samples.TWO, None)
        self.refuses(Crowded, {"school": 1}, is_loose, (((0, 1),), ((0,), (0,)), (1, 10 ** 29)), (0, 0))

    def test_the_very_pairs(self):
        pair = (2, 0)
        for call, args in ((strike, (samples.FOUR, pair)), (strike_all, (samples.FOUR, (pair,)))):
            with self.assertRaises(NotTold) as caught:
                call(*args)
            self.same(caught.exception.pair, pair)
