"""Point 73: hearings, and what may be named in them."""

from random import Random

from idleclaims.naming import heard_claims, is_ended, lets_hearing, may_name
from tests import samples, truth
from tests.support import Case, mutations, no_dealings
from tests.test_stepchecker import is_pairs

FOUR, STILL, BEST, SWAP = samples.FOUR, samples.STILL, samples.BEST, samples.SWAP
THREE = ((3, 0),)


def is_dealing(book, thing):
    """Is thing a dealing of the book? True is not 1."""
    return is_pairs(book, thing) and truth.is_dealing(book, thing)


def heard(book, dealing, other):
    return tuple(pair for pair in truth.claims(book, dealing) if pair in other)


def hearing_judged(book, thing):
    """The first entry that applies and None, or None and how many dealings are named."""
    if type(thing) is not tuple or thing == ():
        return ("shape", -1), None
    for k, dealing in enumerate(thing):
        if not is_dealing(book, dealing):
            return ("dealing", k), None
        if k and not heard(book, thing[k - 1], dealing):
            return ("naming", k), None
    return None, len(thing) - 1


def nameable(book, dealing):
    """The dealings that may be named."""
    return [other for other in truth.dealings(book) if heard(book, dealing, other)]


def played_by_chance(book, random, most=6):
    """A hearing in which both sides play badly."""
    hearing = [random.choice(truth.dealings(book))]
    while len(hearing) <= most and nameable(book, hearing[-1]) and random.random() < 0.85:
        hearing.append(random.choice(nameable(book, hearing[-1])))
    return tuple(hearing)


class NamingTest(Case):
    def wrong(self, book, thing, word, at):
        self.paper_refused(word, at, lets_hearing, book, thing)
        self.same(hearing_judged(book, thing)[0], (word, at))
        self.not_usable("hearing", is_ended, book, thing)

    def test_examples(self):
        hearing = (SWAP, BEST, THREE, STILL)
        result = [heard_claims(FOUR, SWAP, BEST), lets_hearing(FOUR, hearing), is_ended(FOUR, (SWAP, BEST))]
        self.same(result, [((1, 0),), 3, False])
        self.wrong(FOUR, (STILL, BEST), "naming", 1)
        self.same(is_ended(FOUR, hearing), True)

    def test_what_may_be_named(self):
        for book in samples.small_books()[::4] + samples.tiny_books()[::9]:
            for one in truth.dealings(book)[::7]:
                for two in truth.dealings(book)[::5]:
                    self.same(heard_claims(book, one, two), heard(book, one, two))
                    self.same(may_name(book, one, two), heard(book, one, two) != ())
        self.same([may_name(FOUR, BEST, THREE), may_name(FOUR, BEST, ()), may_name(FOUR, BEST, BEST)],
                  [True, False, False])
        # All else in the named dealing is free.
        self.same(may_name(book=FOUR, dealing=BEST, other=((0, 2), (1, 1), (3, 0))), True)
        self.same(heard_claims(FOUR, dealing=(), other=BEST), BEST)

    def test_hearings_played_by_chance(self):
        random = Random(88)
        lengths = {}
        for book in samples.small_books() + samples.EDGES:
            for _ in range(3):
                hearing = played_by_chance(book, random)
                self.same(lets_hearing(book, hearing), len(hearing) - 1)
                self.same(is_ended(book, hearing), truth.claims(book, hearing[-1]) == ())
                self.same(is_ended(book=book, hearing=hearing[:1]), nameable(book, hearing[0]) == [])
                lengths[len(hearing)] = lengths.get(len(hearing), 0) + 1
        self.assertGreater(len(lengths), 4)

    def test_a_hearing_of_one_dealing(self):
        for dealing in truth.dealings(FOUR):
            self.same(lets_hearing(book=FOUR, thing=(dealing,)), 0)
            self.same(is_ended(FOUR, (dealing,)), dealing == STILL)
        for book in samples.EDGES[:4]:
            self.same([lets_hearing(book, ((),)), is_ended(book, ((),))], [0, True])
            self.wrong(book, ((), ()), "naming", 1)

    def test_entries(self):
        for thing in (None, 0, True, "", "ab", (), [], [SWAP], [SWAP, BEST]):
            self.wrong(FOUR, thing, "shape", -1)
        for thing in no_dealings(FOUR):
            self.wrong(FOUR, (thing,), "dealing", 0)
            self.wrong(FOUR, (thing, None, STILL), "dealing", 0)
            self.wrong(FOUR, (SWAP, thing), "dealing", 1)
            self.wrong(FOUR, (SWAP, BEST, thing, 5), "dealing", 2)
        self.wrong(FOUR, (SWAP, BEST, STILL), "naming", 2)
        self.wrong(FOUR, (SWAP, STILL, BEST), "naming", 1)
        # All entries of one place come ahead of those of the next one.
        self.wrong(FOUR, (SWAP, SWAP, None), "naming", 1)
        self.wrong(FOUR, (SWAP, (), None), "naming", 1)
        self.wrong(FOUR, (SWAP, None, SWAP), "dealing", 1)

    def test_hearings_changed_by_chance(self):
        random = Random(89)
        found = {}
        for book in samples.small_books():
            for thing in mutations(played_by_chance(book, random), random, 8):
                entry, many = hearing_judged(book, thing)
                word = "none" if entry is None else entry[0]
                found[word] = found.get(word, 0) + 1
                self.same(self.judged_as([] if entry is None else [entry], lets_hearing, book, thing), many)
                if entry is None:
                    self.same(is_ended(book, thing), truth.claims(book, thing[-1]) == ())
                else:
                    self.not_usable("hearing", is_ended, book, thing)
        for word in ("none", "shape", "dealing", "naming"):
            self.assertGreater(found[word], 20, (word, found))
