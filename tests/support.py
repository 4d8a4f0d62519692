"""What the tests share: exact comparison, refusals, and values that are not as stated."""

import inspect
import unittest
from copy import deepcopy

from idleclaims.errors import InvalidPaper, NotPlain, NotUsable
from tests import truth


def is_exactly(one, other):
    """Are both equal and of the same kinds throughout? True is not 1, a list no tuple."""
    if type(one) is not type(other):
        return False
    if type(one) in (tuple, list):
        return len(one) == len(other) and all(map(is_exactly, one, other))
    return one == other


class Case(unittest.TestCase):
    def same(self, got, expected, note=None):
        if not is_exactly(got, expected):
            self.fail(f"{note}: got {got!r}, expected {expected!r}")

    def refuses(self, error, fields, call, *args, **named):
        """The call must raise exactly this error, with these fields."""
        try:
            result = call(*args, **named)
        except error as caught:
            self.assertIs(type(caught), error)
            for name, value in fields.items():
                self.same(getattr(caught, name), value, (name, call.__name__, args, named))
            return
        self.fail(f"{call.__name__} returned {result!r} for {args!r} {named!r}")

    def not_usable(self, name, call, *args, **named):
        self.refuses(NotUsable, {"word": name, "at": -1}, call, *args, **named)

    def hold(self, spec):
        """All that holds for the parameters of one function; spec is a Spec."""
        names = list(spec.right)
        self.assertEqual(list(inspect.signature(spec.call).parameters), names, spec.call)
        self.assertEqual(spec.call.__module__, "idleclaims." + spec.module)
        by_position = spec.call(*spec.right.values())
        self.alike(spec.call(**spec.right), by_position, spec.call)
        for at, name in enumerate(names):
            for value, error, fields in spec.wrong.get(name, ()):
                self.refused_first(spec, names, at, value, error, fields)

    def alike(self, one, other, note):
        """The same value; of objects of the package only the class is looked at."""
        if type(one).__module__.startswith("idleclaims."):
            self.assertIs(type(one), type(other), note)
        else:
            self.same(one, other, note)

    def hold_class(self, module, made, right, *wrong):
        """All that holds for the parameters of the class, when an object is made."""
        names = list(right)
        self.assertEqual(list(inspect.signature(made).parameters), names, made)
        self.assertEqual(made.__module__, "idleclaims." + module)
        self.assertIs(type(made(*right.values())), made)
        self.assertIs(type(made(**right)), made)
        spec = Spec(module, made, right, *wrong)
        for at, name in enumerate(names):
            for value, error, fields in spec.wrong.get(name, ()):
                self.refused_first(spec, names, at, value, error, fields)

    def hold_method(self, make, name, right, *wrong):
        """All that holds for the parameters of this method of the objects that make() gives."""
        self.assertIn(name, vars(type(make())), "defined in the class itself")
        call = getattr(make(), name)
        names = list(right)
        self.assertEqual(list(inspect.signature(call).parameters), names, call)
        by_name, by_position = call(**right), getattr(make(), name)(*right.values())
        self.alike(by_name, by_position, call)
        spec = Spec(None, getattr(make(), name), right, *wrong)
        for at, parameter in enumerate(names):
            for value, error, fields in spec.wrong.get(parameter, ()):
                self.refused_first(spec, names, at, value, error, fields)

    def paper_refused(self, word, at, call, *args):
        """The checker must raise InvalidPaper with this word and this place."""
        self.refuses(InvalidPaper, {"word": word, "at": at}, call, *args)

    def judged_as(self, entries, call, *args):
        """The checker must raise InvalidPaper for the first one of these entries; returns what it returns without."""
        first = next(iter(entries), None)
        if first is None:
            return call(*args)
        self.paper_refused(*first, call, *args)
        return None

    def refused_first(self, spec, names, at, value, error, fields):
        """The wrong value is refused, also if all later parameters are wrong, too."""
        args = dict(spec.right)
        args[names[at]] = value
        before = deepcopy(args)
        self.refuses(error, fields, spec.call, *args.values())
        for later in names[at + 1:]:
            if spec.wrong.get(later):
                args[later] = spec.wrong[later][0][0]
        self.refuses(error, fields, spec.call, **args)
        self.same(args[names[at]], before[names[at]])


class Spec:
    """A function, right arguments in the stated order, and what each parameter refuses."""

    def __init__(self, module, call, right, *wrong):
        self.module = module
        self.call = call
        self.right = right
        self.wrong = {}
        for name, value, error, fields in [row for rows in wrong for row in rows]:
            self.wrong.setdefault(name, []).append((value, error, fields))


def unusable(name, values):
    """Rows of a Spec: NotUsable for each of these values."""
    return [(name, value, NotUsable, {"word": name, "at": -1}) for value in values]


def not_plain(book):
    """Rows of a Spec for a parameter plain: no dealings, then all dealings that are not plain."""
    rows = unusable("plain", no_dealings(book))
    for dealing in truth.dealings(book):
        if truth.claims(book, dealing):
            rows.append(("plain", dealing, NotPlain, {"pair": truth.claims(book, dealing)[0]}))
    return rows


def no_numbers(many=None):
    """What is no number, or none below many."""
    found = [None, "", "0", (), (0,), [0], [], -1, -(10 ** 59), False, True]
    return found if many is None else found + [many, many + 1, 10 ** 59]


def with_bools(values):
    """The tuple with True for each 1 and False for each 0, throughout."""
    return tuple(
        with_bools(value) if type(value) is tuple else {0: False, 1: True}.get(value, value) for value in values
    )


def no_pairs_at_all(book):
    """What is no pair of the book."""
    pairs = truth.pairs(book)
    a, b = pairs[0]
    found = [None, True, 0, "", "01", (), (a,), (a, b, b), (a, b, None), [a, b], (pairs[0],), ([a], b), (a, (b,))]
    found += [(a, None), (None, b), (str(a), str(b)), (-1, b), (a, -1), (len(book[0]), b), (a, len(book[1]))]
    found += [(a, -len(book[1]) + b), (a - len(book[0]), b)]
    every = [(a, b) for a in range(len(book[0])) for b in range(len(book[1]))]
    found += [pair for pair in every if pair not in pairs]
    found += [with_bools(pair) for pair in pairs if not is_exactly(with_bools(pair), pair)]
    return found


def no_sets_of_pairs(book):
    """What is no set of pairs of the book."""
    pairs = truth.pairs(book)
    one, two = pairs[0], pairs[-1]
    found = [None, False, 1, "", "pairs", [], [one], one, (one, one), (two, one), (one, two, two), (one, two, one)]
    found += [list(pairs), (list(one),), (one, [two]), tuple(reversed(pairs)), (pairs,), ((),)]
    found += [(pair,) for pair in no_pairs_at_all(book)]
    return found


def no_dealings(book):
    """What is no dealing of the book."""
    pairs = truth.pairs(book)
    found = no_sets_of_pairs(book)
    found += [(p, q) for p in pairs for q in pairs if p < q and p[0] == q[0]]
    for school, many in enumerate(book[2]):
        there = tuple(pair for pair in pairs if pair[1] == school)
        if len(there) > many:
            found += [there, there[:many + 1]]
    return found


def no_sets_below(many):
    """What is no set of numbers below many, many being at least two."""
    found = [None, True, 0, "", "01", [], [0], [0, 1], (0, 0), (1, 0), (-1,), (many,), (0, many), (None,), ("0",)]
    return found + [(False,), (True,), (0, True), ((0,),), ([0],)]


def no_books():
    """What is no book."""
    right = (((0, 1), (0,)), ((1, 0), (0,)), (1, 2))
    assert truth.pairs(right)
    wishes, rolls, seats = right
    found = [None, 0, True, "", "abc", (), [], list(right), right[:2], right + ((),), (right,)]
    found += [([(0, 1), (0,)], rolls, seats), (wishes, [(1, 0), (0,)], seats), (wishes, rolls, [1, 2])]
    found += [(None, rolls, seats), (wishes, None, seats), (wishes, rolls, None), (wishes, rolls, 2)]
    found += [("ab", rolls, seats), (wishes, "ab", seats), (wishes, rolls, "12"), (wishes, rolls[:1], seats)]
    found += [(wishes, rolls, (1,)), (wishes, rolls, (1, 2, 1)), (wishes, rolls + ((),), seats)]
    found += [(wishes, rolls, (1, many)) for many in (0, -1, None, True, "1", (1,), [1])]
    wrong = ((), [0], None, 0, "0", (1,), (0, 0), (False,), (0, 2), (-2,), ("0",), ((0,),))
    found += [(((0, 1), listed), rolls, seats) for listed in wrong]
    found += [(((0, True), (0,)), rolls, seats), (((0, 1), (0, 1)), rolls, seats), (((0, 1, 0), (0,)), rolls, seats)]
    found += [(wishes, ((1, 0), listed), seats) for listed in wrong]
    found += [(wishes, ((True, 0), (0,)), seats), (wishes, ((1, 0), (0, 1)), seats), (wishes, ((1, 0, 1), (0,)), seats)]
    found += [(wishes + ((0,),), rolls, seats), (wishes + ((),), ((2, 1, 0), (0,)), seats), (wishes[:1], rolls, seats)]
    return found


JUNK = (None, True, False, 0, 1, 2, 3, -1, 10 ** 59, "", "0", "01", (), (0,), (0, 1), ((0, 1),), [], [0])


def mutated(value, random):
    """The value changed at one place by chance; for tuples mostly further inside."""
    if type(value) is not tuple or not value or random.random() < 0.1:
        return random.choice(JUNK + ((list(value),) if type(value) is tuple else (str(value), (value,))))
    at, other = random.randrange(len(value)), random.randrange(len(value))
    way = random.random()
    if way < 0.7:
        return value[:at] + (mutated(value[at], random),) + value[at + 1:]
    if way < 0.8:
        return value[:at] + value[at + 1:]
    if way < 0.9:
        return value[:at] + (value[other],) + value[at:]
    return value[:at] + (value[other],) + value[at + 1:]


def mutations(value, random, many):
    """The value changed by chance at one to three places, so many times."""
    found = []
    for _ in range(many):
        changed = value
        for _ in range(random.choice((1, 1, 2, 3))):
            changed = mutated(changed, random)
        found.append(changed)
    return found
