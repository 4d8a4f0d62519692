"""The section "The interface": every name stands in its module, with its parameters under their names.

What the names do is tested beside their points; the errors stand in test_errors.
"""

import importlib
import inspect
import pkgutil
import re
import unittest

import idleclaims

FUNCTIONS = {
    "kinds": (
        "is_integer(thing), is_number(thing), is_book(thing), is_pair(book, thing), is_pairs(book, thing), "
        "is_dealing(book, thing)"
    ),
    "bookchecker": "lets_book(thing)",
    "books": (
        "how_many_pupils(book), how_many_schools(book), pairs_of(book), likes_school(book, pupil, one, "
        "other), likes_pupil(book, school, one, other)"
    ),
    "makers": (
        "without_pairs(book, pairs), side_by_side(book, other), is_shorter(book, thing), sides_changed(book), "
        "renamed(book, pupils, schools)"
    ),
    "towns": "towns_of(book), town_book(book, pupils, schools)",
    "towers": "tower(many)",
    "dealings": (
        "place_of(book, dealing, pupil), places_of(book, dealing), held_by(book, dealing, school), "
        "free_seats(book, dealing, school), dealing_of(book, places), moved(book, dealing, pairs)"
    ),
    "numbering": "all_dealings(book), how_many_dealings(book), dealing_at(book, many), number_of(book, dealing)",
    "wanting": (
        "pupil_wants(book, dealing, pair), school_wants(book, dealing, pair), claims_against(book, dealing), "
        "is_plain(book, dealing)"
    ),
    "comparing": (
        "betters(book, dealing, other), at_least(book, dealing, other), gainers(book, dealing, other), "
        "losers(book, dealing, other)"
    ),
    "booklines": "book_lines(book), read_book(lines), dealing_line(book, dealing), read_dealing(book, text)",
    "asking": "pupils_deal(book), schools_deal(book), refused_asked(book), refused_asking(book)",
    "diaries": (
        "pupils_diary(book, order), schools_diary(book, order), lets_pupils_diary(book, thing), "
        "lets_schools_diary(book, thing)"
    ),
    "placed": "placed_pupils(book), filled(book), fixed_schools(book)",
    "turning": (
        "next_school(book, plain, pupil), points_to(book, plain, pupil), turnings_at(book, plain), "
        "turned(book, plain, turning)"
    ),
    "walks": "walk_of(book), all_plain(book), how_many_plain(book), lets_walk(book, thing)",
    "pairkinds": "kind_of(book, pair), kinds_of(book)",
    "showing": "plain_with(book, pair), cold_at(book, pair)",
    "between": "better_plain(book, plain, other), worse_plain(book, plain, other)",
    "exchange": (
        "unclaimed_by(book, plain, dealing), first_claim(book, plain, dealing), exchanged(book, plain, "
        "dealing)"
    ),
    "exchangekinds": "given_and_got(book, dealing, other, pupils), is_exchange(book, plain, dealing)",
    "exchangerings": "led(book, dealing, ring), rings_of(book, plain, dealing)",
    "arrows": "rises_at(book, plain), falls_at(book, plain), rise_arrows(book, plain), fall_arrows(book, plain)",
    "heights": "told_heights(book, arrows), lets_heights(book, arrows, thing), is_strict(book, arrows, heights)",
    "rings": "rise_ring(book, plain, pair), fall_ring(book, plain, pair), any_rise_ring(book, plain)",
    "ranks": "followers_of(book, plain, school), told_ranks(book, plain), lets_ranks(book, plain, thing)",
    "reasons": (
        "struck_cold(book, plain), struck_up(book, plain, heights), struck_down(book, plain, heights), "
        "struck_rank(book, plain, ranks)"
    ),
    "loose": "told_pairs(book), told_by(book, pair), is_loose(book, pair), loose_by_all(book)",
    "unclaimed": "at_once(book, dealing), open_with(book, pair)",
    "striking": "strike(book, pair), strike_all(book, pairs), struck_by(book, digits), is_end(book)",
    "ladder": "ladder_of(book), how_many_levels(book), level_book(book, level), level_of(book, pair)",
    "lastbook": "last_book(book), is_last(book), rightful_pairs(book), idle_pairs(book)",
    "lastchecks": "lets_last(book, thing), is_between(book, thing)",
    "stepkinds": "is_row(thing)",
    "stepmakers": "steps_of(book), steps_to(book, pair)",
    "stepchecker": "lets_steps(book, thing)",
    "pairpapers": (
        "idle_paper(book, pair), rightful_paper(book, pair), pair_paper(book, pair), lets_pair_paper(book, "
        "pair, thing)"
    ),
    "lastpapers": "last_paper(book), lets_last_paper(book, thing)",
    "rightful": (
        "is_rightful(book, dealing), rightful_level(book, dealing), all_rightful(book), "
        "how_many_rightful(book), rightful_with(book, pair)"
    ),
    "objections": "objecting_pairs(book, dealing), objection_to(book, dealing), lets_objection(book, dealing, thing)",
    "joining": (
        "rightful_better(book, dealing, other), rightful_worse(book, dealing, other), turnings_down(book, "
        "dealing), down_from(book, dealing)"
    ),
    "best": "best_deal(book), worst_deal(book), at_best(book, pupil), best_by_rises(book)",
    "waste": "wasted_ring(book, plain), better_deal(book, plain), is_wasteful(book)",
    "gains": "gains_of(book), gain_rings(book)",
    "sameplaced": "placed_rightful(book), filled_rightful(book), free_held(book)",
    "bestpapers": "best_paper(book), lets_best(book, thing)",
    "wastepapers": "waste_paper(book, plain), lets_waste(book, plain, thing)",
    "notpapers": "dealing_paper(book, dealing), lets_dealing_paper(book, dealing, thing)",
    "waivers": (
        "is_waiver(book, thing), all_idle_of(book, pupil), claims_left(book, waived, dealing), "
        "is_allowed(book, waived, dealing), least_waiver(book, dealing)"
    ),
    "bestunder": "best_under(book, waived), place_under(book, waived, pupil), kept_by(book, waived, pupils)",
    "waivehearing": "can_name(book, waived, dealing, other), wins_under(book, waived)",
    "turns": "turns_of(book), ahead_of(book, turn), done_in(book, dealing), dealing_by(book, turns)",
    "spans": "span_of(book, pair), spans_of(book), silent_pairs(book)",
    "demands": "meets(book, demands, dealing), can_meet(book, demands), broken_by(book, demands)",
    "prices": (
        "is_prices(book, thing), price_of(book, prices, dealing), least_price(book, prices, demands), "
        "cheapest_deal(book, prices, demands), price_list(book, prices, pupil)"
    ),
    "blocks": "is_block(book, demands, pairs), blocks_of(book, prices, demands)",
    "pricepapers": "price_paper(book, prices, demands), lets_price(book, prices, demands, thing)",
    "naming": (
        "may_name(book, dealing, other), heard_claims(book, dealing, other), lets_hearing(book, thing), "
        "is_ended(book, hearing)"
    ),
    "outcomes": "outcome_of(book, dealing), winning_level(book, dealing), bound_of(book, dealing)",
    "answers": "winning_answer(book, dealing)",
    "exact": "moves_of(book, dealing), long_answer(book, dealing), best_answer(book, dealing)",
    "playing": "played_out(book, dealing), answered(book, dealing, named)",
    "tables": "outcome_table(book), longest(book)",
    "courtpapers": "court_paper(book, dealing), lets_court(book, dealing, thing)",
    "sides": "side_moves(book, other, dealing, beside)",
    "letters": "letter_of(book, pupil), letter_lines(book, pupil)",
    "lowering": (
        "moved_wish(book, pupil, school, place), moved_roll(book, school, pupil, place), is_lowered(book, "
        "thing), best_first(book, pupils), trimmed(book, pupils)"
    ),
    "adding": (
        "with_pair(book, pupil, school, place, other), with_pupil(book), with_school(book, many), "
        "with_seats(book, school, many)"
    ),
    "comparedbooks": "same_rightful(book, other), changed_pairs(book, other), moved_places(book, other)",
    "officeevents": "is_event(thing), is_log(thing)",
    "replaying": "replayed(book, log), stood_at(book, log, many)",
    "eventlines": "event_line(event), read_event(text), log_lines(log), read_log(lines)",
    "officelines": "office_lines(book, waived)",
    "desk": "answered_line(book, text)",
}
CLASSES = {
    ("bookclasses", "Book(wishes, rolls, seats)"): (
        "told(), how_many(), all_pairs(), as_lines(), each_dealing(), of_lines(lines), without(pairs), "
        "beside(other), claims(dealing), is_same(other)"
    ),
    ("plainclasses", "Plain(book)"): (
        "first(), last(), walk(), kinds(), here(), gone(), turnings(), turn(turning)"
    ),
    ("reasonclasses", "Standing(book, plain)"): (
        "told(), rises(), falls(), rise_heights(), fall_heights(), ranks(), struck(), struck_all(), "
        "reasons_for(pair), turned(turning), is_same(other)"
    ),
    ("ladderclasses", "Ladder(book)"): (
        "left(), struck(), told(), has_ended(), strike(pairs), go_down(), back(many), rows()"
    ),
    ("rightfulclasses", "Rightful(book)"): (
        "best(), worst(), idle(), how_many(), each_rightful(), holds(dealing), objecting(dealing), "
        "better(dealing, other), worse(dealing, other), down(dealing)"
    ),
    ("waiverclasses", "Waiver(book, waived)"): (
        "waive(pairs), claim(pairs), widened(pairs), marked(), left(dealing), lets(dealing), best(), "
        "gets(pupil), does_all(), cost(prices)"
    ),
    ("courtclasses", "Court(book, dealing)"): (
        "name(other), answer(), back(many), on_table(), namings(), has_ended()"
    ),
    ("office", "LiveOffice(book)"): (
        "go(event), tried(event), barred(event), undo(many), do_all(events, keep), book_now(), waived_now(), "
        "best_now(), allowed_best(), quiet_now(), log(), tally()"
    ),
    ("officeclasses", "Day(book, log)"): (
        "told(), how_many(), stood(many), places(pupil), loud(), as_lines(), is_same(other)"
    ),
}


def told(text):
    """The names, each with the tuple of its parameters."""
    found = re.findall(r"(\w+)\(([^)]*)\)", text)
    return {name: tuple(filter(None, parameters.split(", "))) for name, parameters in found}


def module_of(name):
    return importlib.import_module("idleclaims." + name)


class InterfaceTest(unittest.TestCase):
    def parameters(self, call, expected):
        """The parameters have these names, may be passed by position and by name, and have no defaults."""
        parameters = inspect.signature(call).parameters.values()
        self.assertEqual(tuple(parameter.name for parameter in parameters), expected, call)
        for parameter in parameters:
            self.assertIs(parameter.kind, inspect.Parameter.POSITIONAL_OR_KEYWORD, call)
            self.assertIs(parameter.default, inspect.Parameter.empty, call)

    def test_functions(self):
        many = 0
        for name, functions in FUNCTIONS.items():
            for function, parameters in told(functions).items():
                call = vars(module_of(name))[function]
                self.assertTrue(inspect.isfunction(call), function)
                self.assertEqual((call.__module__, call.__name__), ("idleclaims." + name, function))
                self.parameters(call, parameters)
                many += 1
        self.assertEqual((len(FUNCTIONS), many), (74, 222))

    def test_classes(self):
        for (name, made), methods in CLASSES.items():
            (word, parameters), = told(made).items()
            found = vars(module_of(name))[word]
            self.assertTrue(inspect.isclass(found), word)
            self.assertEqual((found.__module__, found.__name__), ("idleclaims." + name, word))
            self.parameters(found, parameters)
            for method, expected in told(methods).items():
                # In the body of the class itself.
                self.assertIn(method, vars(found), word)
                self.parameters(getattr(found, method), self.own(found, method) + expected)
        self.assertEqual(sum(len(told(methods)) for methods in CLASSES.values()), 82)

    def own(self, found, method):
        return () if isinstance(vars(found)[method], classmethod) else ("self",)

    def test_generators(self):
        """What generates is a generator; all else is not."""
        generating = []
        for name, functions in FUNCTIONS.items():
            found = module_of(name)
            generating += [word for word in told(functions) if inspect.isgeneratorfunction(getattr(found, word))]
        for (name, made), methods in CLASSES.items():
            found = getattr(module_of(name), made.split("(")[0])
            generating += [word for word in told(methods) if inspect.isgeneratorfunction(getattr(found, word))]
        self.assertEqual(sorted(generating), ["all_dealings", "each_dealing", "each_rightful"])

    def test_the_package(self):
        names = [found.name for found in pkgutil.iter_modules(idleclaims.__path__)]
        for name in [*FUNCTIONS, *[name for name, _ in CLASSES], "errors"]:
            self.assertIn(name, names)
        self.assertLessEqual(len(names) + 1, 100)
