"""Point 19: who wants whom, and claims."""

from idleclaims.wanting import claims_against, is_plain, pupil_wants, school_wants
from tests import samples, truth
from tests.support import Case


class WantingTest(Case):
    def test_example(self):
        self.same(claims_against(samples.FOUR, samples.BEST), ((3, 0),))
        self.same(is_plain(samples.FOUR, samples.BEST), False)
        self.same(is_plain(samples.FOUR, samples.STILL), True)
        self.same(is_plain(samples.LESS, samples.BEST), True)

    def test_wants(self):
        for book in samples.small_books()[::3] + samples.tiny_books():
            for dealing in truth.dealings(book)[::7] + truth.plains(book):
                for pair in truth.pairs(book):
                    self.same(pupil_wants(book, dealing, pair), truth.pupil_wants(book, dealing, pair))
                    self.same(school_wants(book, dealing, pair), truth.school_wants(book, dealing, pair))

    def test_false_for_pairs_of_the_dealing(self):
        # School 0 of TWO has a seat left, but pupil 1 sits there already.
        self.same(school_wants(samples.TWO, ((1, 0),), (1, 0)), False)
        self.same(pupil_wants(samples.TWO, ((1, 0),), (1, 0)), False)
        self.same(school_wants(samples.TWO, ((1, 0),), (2, 0)), True)

    def test_several_seats(self):
        full = ((0, 0), (2, 0))
        self.same(school_wants(samples.TWO, full, (1, 0)), True)
        self.same(pupil_wants(samples.TWO, full, (1, 0)), True)
        self.same(claims_against(samples.TWO, full), ((0, 1), (1, 0)))
        self.same(claims_against(samples.TWO, ((0, 0), (1, 0))), ((0, 1), (2, 1)))

    def test_claims(self):
        for book in samples.small_books() + samples.tiny_books():
            for dealing in truth.dealings(book)[::5] + truth.plains(book):
                claims = truth.claims(book, dealing)
                self.same(claims_against(book, dealing), claims)
                self.same(is_plain(book, dealing), claims == ())

    def test_side_by_side(self):
        # A dealing of books side by side is plain exactly if both its parts are.
        for book, other in ((samples.ODD, samples.TWO), (samples.NARROW, samples.ODD), (samples.TWO, samples.WIDE)):
            both = samples.beside(book, other)
            for one in truth.dealings(book):
                for two in truth.dealings(other):
                    on = tuple((a + len(book[0]), b + len(book[1])) for a, b in two)
                    expected = truth.claims(book, one) == () == truth.claims(other, two)
                    self.same(is_plain(both, one + on), expected)

    def test_without_pairs(self):
        for book in samples.EDGES[:4]:
            self.same(claims_against(book, ()), ())
            self.same(is_plain(book, ()), True)
