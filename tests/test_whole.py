"""Point 2 over the whole program: results do not depend on what was asked before, and arguments stay as they are."""

import importlib
import inspect
from copy import deepcopy
from random import Random

from tests import deepbooks, samples, truth, turnbooks
from tests.support import Case, is_exactly
from tests.test_interface import FUNCTIONS, told

NAMES = [(name, function, names) for name, text in FUNCTIONS.items() for function, names in told(text).items()]
ONE_SEAT = (
    "sides_changed", "is_loose", "open_with", "moves_of", "long_answer", "best_answer", "played_out", "side_moves"
)


def right_arguments(book, function, random):
    """An argument for each parameter that the functions have, or None where this book has none."""
    pairs, rightful = truth.pairs(book), turnbooks.rightfuls(book)
    idle = turnbooks.idle_pairs(book)
    pupil, school = random.choice(pairs)
    must = function in (
        "rightful_better", "rightful_worse", "turnings_down", "down_from", "least_waiver", "done_in", "price_of"
    )
    dealing, other = (random.choice(rightful if must else truth.dealings(book)) for _ in range(2))
    plain = random.choice(truth.plains(book))
    if function in ("better_plain", "worse_plain"):
        other = random.choice(truth.plains(book))
    if function in ("same_rightful", "changed_pairs", "moved_places", "side_by_side"):
        other = samples.ODD
    if function == "exchanged" or function == "rings_of":
        dealing = random.choice(rightful)
    return {
        "book": book, "thing": random.choice((dealing, pairs, book, (dealing,), None, [1, [2]])), "pair": (pupil, school),
        "pairs": idle[:1], "pupil": pupil, "school": school, "dealing": dealing, "plain": plain, "other": other,
        "waived": idle[::2], "one": book[0][pupil][0], "demands": rightful[0][:1], "prices": (2,) * len(idle),
        "place": 0, "pupils": (0,), "schools": (0,), "digits": (5, 1), "level": 0, "many": 1, "turns": (), "hearing": (dealing,),
        "named": (), "places": tuple(truth.place(dealing, a) for a in range(len(book[0]))),
        "order": tuple(range(len(book[1 if function.startswith("schools") else 0]))), "arrows": (), "ring": None,
        "heights": (0,) * len(book[1]), "ranks": (None,) * len(book[1]), "turning": None, "turn": 0, "text": "-",
        "lines": ("pupil 0:",), "event": ("pupil",), "log": (("pupil",),), "beside": (),
    }


def answer(call, args):
    """What the call returns, or its error with its fields; objects are told by their class."""
    try:
        result = call(*args)
    except ValueError as error:
        return (type(error).__name__, sorted(vars(error).items(), key=repr))
    if inspect.isgenerator(result):
        return list(result)
    return type(result).__name__ if type(result).__module__.startswith("idleclaims.") else result


class WholeTest(Case):
    def calls(self, book, random):
        """Calls of all functions of the interface, most of which return."""
        found = []
        for name, function, parameters in NAMES:
            if function in ONE_SEAT and max(book[2]) > 1:
                continue
            arguments = right_arguments(book, function, random)
            call = getattr(importlib.import_module("idleclaims." + name), function)
            found.append((call, [arguments[parameter] for parameter in parameters]))
        return found

    def test_in_any_sequence(self):
        random = Random(96)
        returned = set()
        books = [book for book in deepbooks.books() if truth.pairs(book)]
        for book in [samples.FOUR, samples.TWO, samples.LINK, samples.WIDE] + random.sample(books, 12):
            calls = self.calls(book, random)
            before = deepcopy([args for _, args in calls])
            first = [answer(call, args) for call, args in calls]
            again = list(range(len(calls)))
            random.shuffle(again)
            for k in again:
                call, args = calls[k]
                self.assertTrue(is_exactly(answer(call, args), first[k]), (call, args))
            self.assertTrue(is_exactly([args for _, args in calls], before))
            returned.update(call.__name__ for (call, args), told in zip(calls, first) if not self.is_error(told))
        self.assertGreater(len(returned), 190)

    def is_error(self, told):
        return type(told) is tuple and told != () and type(told[0]) is str and type(told[-1]) is list

    def test_what_was_returned_may_be_passed_in(self):
        """Values of one function go into others as they are."""
        for book in (samples.FOUR, samples.LINK, samples.TWO):
            def get(module, function, *args):
                return getattr(importlib.import_module("idleclaims." + module), function)(book, *args)

            idle, best = get("lastbook", "idle_pairs"), get("best", "best_deal")
            self.same(get("bestunder", "best_under", idle), best)
            self.same(get("bestpapers", "lets_best", get("bestpapers", "best_paper")), best)
            self.same(get("notpapers", "lets_dealing_paper", best, get("notpapers", "dealing_paper", best)), "rightful")
            self.same(get("booklines", "read_dealing", get("booklines", "dealing_line", best)), best)
            prices, demands = tuple(range(len(idle))), best[:2]
            paper = get("pricepapers", "price_paper", prices, demands)
            least = get("prices", "least_price", prices, demands)
            self.same(get("pricepapers", "lets_price", prices, demands, paper), least)
            self.same(get("turns", "dealing_by", get("turns", "done_in", best)), best)
