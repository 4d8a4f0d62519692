"""Point 54: objections to dealings that are not rightful."""

from random import Random

from idleclaims.objections import lets_objection, objecting_pairs, objection_to
from tests import samples, truth
from tests.support import Case, mutations, no_dealings, no_pairs_at_all

FOUR, BEST, SWAP = samples.FOUR, samples.BEST, samples.SWAP


class ObjectionsTest(Case):
    def test_example(self):
        self.same(objecting_pairs(FOUR, SWAP), ((1, 0),))
        self.same(objection_to(FOUR, SWAP), ((1, 0), BEST))

    def test_all_dealings(self):
        found = {True: 0, False: 0}
        for book in samples.small_books()[::7] + samples.tiny_books()[::9]:
            rightful = set(truth.rightful_pairs(book))
            for dealing in truth.dealings(book):
                pairs = tuple(pair for pair in truth.claims(book, dealing) if pair in rightful)
                self.same(objecting_pairs(book, dealing), pairs)
                result = objection_to(book, dealing)
                self.same(result is None, dealing in truth.rightfuls(book))
                self.same(result is None, pairs == ())
                found[result is None] += 1
                if result is not None:
                    self.assertTrue(self.is_objection(book, dealing, result))
                    self.same(lets_objection(book, dealing, result), True)
                self.same(lets_objection(book, dealing, None), False)
        self.assertGreater(min(found.values()), 50)

    def is_objection(self, book, dealing, thing):
        if type(thing) is not tuple or len(thing) != 2:
            return False
        pair, other = thing
        if not any(repr(other) == repr(m) for m in truth.rightfuls(book)):
            return False
        return any(repr(pair) == repr(one) for one in other) and pair in truth.claims(book, dealing)

    def test_any_objection(self):
        random = Random(53)
        for book in samples.small_books()[::12]:
            for dealing in truth.dealings(book)[::13]:
                for pair in truth.pairs(book):
                    for other in truth.rightfuls(book) + (dealing, random.choice(truth.dealings(book))):
                        thing = (pair, other)
                        self.same(lets_objection(book, dealing, thing), self.is_objection(book, dealing, thing))

    def test_no_objections(self):
        right = ((1, 0), BEST)
        self.same(lets_objection(book=FOUR, dealing=SWAP, thing=right), True)
        wrong = [None, 0, True, "", "ab", (), [], list(right), right[:1], right + ((),), (right,), right[::-1]]
        wrong += [((3, 0), BEST), ((0, 1), BEST), ((1, 0), samples.STILL), ((1, 0), SWAP), ((1, 0), ((1, 0),))]
        wrong += [(pair, BEST) for pair in no_pairs_at_all(FOUR)] + [((1, 0), m) for m in no_dealings(FOUR)]
        for thing in wrong:
            self.same(lets_objection(FOUR, SWAP, thing), False, thing)
        # Against a rightful dealing there is none, although idle pairs claim.
        self.same(truth.claims(FOUR, BEST), ((3, 0),))
        for thing in (right, ((3, 0), BEST), ((3, 3), BEST)):
            self.same(lets_objection(FOUR, BEST, thing), False)

    def test_objections_changed_by_chance(self):
        random = Random(54)
        for book in samples.small_books()[::2]:
            for dealing in truth.dealings(book)[::29]:
                made = objection_to(book, dealing)
                if made is not None:
                    for thing in mutations(made, random, 10):
                        self.same(lets_objection(book, dealing, thing), self.is_objection(book, dealing, thing))

    def test_large_books(self):
        for book in samples.large_books():
            for dealing in ((), truth.pairs(book)[:1]):
                pair, other = objection_to(book, dealing)
                self.assertIn(pair, other)
                self.assertIn(pair, truth.claims(book, dealing))
                self.same(lets_objection(book, dealing, (pair, other)), True)

    def test_nobody(self):
        for book in samples.EDGES[:4]:
            self.same([objecting_pairs(book, ()), objection_to(book, ())], [(), None])
