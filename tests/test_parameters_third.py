"""Points 2 and 12 for the third fourteen modules: names, sequence and refusals of the parameters."""

from idleclaims.adding import with_pair, with_pupil, with_school, with_seats
from idleclaims.between import better_plain, worse_plain
from idleclaims.bookchecker import lets_book
from idleclaims.booklines import book_lines, dealing_line, read_book, read_dealing
from idleclaims.diaries import lets_pupils_diary, lets_schools_diary, pupils_diary, schools_diary
from idleclaims.errors import NotPlain
from idleclaims.eventlines import event_line, log_lines, read_event, read_log
from idleclaims.office import LiveOffice
from idleclaims.officelines import office_lines
from idleclaims.pairkinds import kind_of, kinds_of
from idleclaims.placed import filled, fixed_schools, placed_pupils
from idleclaims.replaying import replayed, stood_at
from idleclaims.towers import tower
from idleclaims.towns import town_book, towns_of
from tests import samples, truth
from tests.support import (
    Case, Spec, no_dealings, no_numbers, no_pairs_at_all, no_sets_below, not_plain, unusable
)
from tests.test_eventlines import NO_EVENTS
from tests.test_parameters import NO_ORDERS
from tests.test_parameters_more import waived

NO_STRINGS = (None, 0, True, (), [], ("-",), ["-"])
NO_LINES = (None, 0, True, "", "pupil", [], ["pupil"], (None,), ("pupil", 0), (("pupil",),))
NO_LOGS = (None, 0, True, "", "pupil", [], [("pupil",)], ("pupil",), (("pupil",), None), (("school", 0),))
# What is no integer from 1 on.
NO_SEATS = (None, True, False, "", "1", (), (1,), [1], 0, -1, -(10 ** 59))


def specs_of_books():
    four, two = samples.FOUR, samples.TWO
    yield Spec("bookchecker", lets_book, {"thing": four})
    yield Spec("towns", towns_of, {"book": four})
    wrong = unusable("pupils", no_sets_below(4)), unusable("schools", no_sets_below(4))
    yield Spec("towns", town_book, {"book": four, "pupils": (0, 2), "schools": (1, 3)}, *wrong)
    yield Spec("towers", tower, {"many": 2}, unusable("many", NO_SEATS + (5, 6, 10 ** 59)))
    yield Spec("booklines", book_lines, {"book": four})
    yield Spec("booklines", read_book, {"lines": ("pupil 0: 0", "school 0 x1: 0")}, unusable("lines", NO_LINES))
    wrong = unusable("dealing", no_dealings(two))
    yield Spec("booklines", dealing_line, {"book": two, "dealing": samples.ABOVE}, wrong)
    yield Spec("booklines", read_dealing, {"book": two, "text": "0-1"}, unusable("text", NO_STRINGS))
    right = {"book": two, "pupil": 1, "school": 1, "place": 1, "other": 2}
    wrong = [unusable("pupil", no_numbers(3)), unusable("school", [0, *no_numbers(2)])]
    wrong += [unusable("place", no_numbers(2)), unusable("other", no_numbers(3))]
    yield Spec("adding", with_pair, right, *wrong)
    yield Spec("adding", with_pupil, {"book": four})
    yield Spec("adding", with_school, {"book": four, "many": 1}, unusable("many", NO_SEATS))
    wrong = unusable("school", no_numbers(4)), unusable("many", NO_SEATS)
    yield Spec("adding", with_seats, {"book": four, "school": 3, "many": 2}, *wrong)


def specs_of_dealings():
    four, two, odd = samples.FOUR, samples.TWO, samples.ODD
    wrong = unusable("order", NO_ORDERS)
    yield Spec("diaries", pupils_diary, {"book": two, "order": (2, 0, 1)}, wrong)
    book = (((0, 2), (1,)), ((0,), (1,), (0,)), (1, 2, 1))
    yield Spec("diaries", schools_diary, {"book": book, "order": (2, 0, 1)}, wrong)
    for call in (lets_pupils_diary, lets_schools_diary):
        yield Spec("diaries", call, {"book": samples.NO_LISTS, "thing": ()})
    for call in (placed_pupils, filled, fixed_schools):
        yield Spec("placed", call, {"book": two})
    yield Spec("pairkinds", kind_of, {"book": four, "pair": (3, 0)}, unusable("pair", no_pairs_at_all(four)))
    yield Spec("pairkinds", kinds_of, {"book": four})
    others = unusable("other", no_dealings(odd))
    for dealing in truth.dealings(odd):
        if truth.claims(odd, dealing):
            others.append(("other", dealing, NotPlain, {"pair": truth.claims(odd, dealing)[0]}))
    for call in (better_plain, worse_plain):
        right = {"book": odd, "plain": ((0, 1), (1, 0)), "other": ((0, 0), (1, 1))}
        yield Spec("between", call, right, not_plain(odd), others)


def specs_of_offices():
    four = samples.FOUR
    log = (("waive", 3, 0), ("pupil",))
    yield Spec("replaying", stood_at, {"book": four, "log": log, "many": 2}, unusable("log", NO_LOGS),
               unusable("many", no_numbers(3)))
    yield Spec("eventlines", event_line, {"event": ("waive", 3, 0)}, unusable("event", NO_EVENTS))
    yield Spec("eventlines", read_event, {"text": "waive 3 0"}, unusable("text", NO_STRINGS))
    yield Spec("eventlines", log_lines, {"log": log}, unusable("log", NO_LOGS))
    yield Spec("eventlines", read_log, {"lines": ("pupil",)}, unusable("lines", NO_LINES))
    yield Spec("officelines", office_lines, {"book": four, "waived": ((3, 0),)}, waived(four))


class ParametersTest(Case):
    def test_all(self):
        for spec in [*specs_of_books(), *specs_of_dealings(), *specs_of_offices()]:
            with self.subTest(call=spec.call.__name__):
                self.hold(spec)

    def test_offices(self):
        self.hold_class("office", LiveOffice, {"book": samples.FOUR})
        self.hold(Spec("replaying", replayed, {"book": samples.FOUR, "log": ()}, unusable("log", NO_LOGS)))
