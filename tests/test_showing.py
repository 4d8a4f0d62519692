"""Point 30: dealings that show the kind of a pair."""

from idleclaims.showing import cold_at, plain_with
from tests import samples, truth
from tests.support import Case


class ShowingTest(Case):
    def test_example(self):
        result = [plain_with(samples.LESS, (1, 1)), cold_at(samples.LESS, (0, 2)), cold_at(samples.LESS, (2, 0))]
        self.same(result, [((0, 0), (1, 1), (2, 2), (3, 3)), ((0, 1), (1, 0), (2, 2), (3, 3)), None])

    def test_by_definition(self):
        for book in samples.small_books() + samples.tiny_books():
            for pair in truth.pairs(book):
                kind = truth.kind(book, pair)
                self.shown(book, pair, plain_with(book, pair), kind == "plain")
                self.shown(book, pair, cold_at(book, pair), kind == "cold")
                if kind == "plain":
                    self.assertIn(pair, plain_with(book, pair))
                if kind == "cold":
                    self.assertTrue(truth.is_cold(book, cold_at(book, pair), pair))

    def shown(self, book, pair, dealing, there):
        if there:
            self.assertIs(type(dealing), tuple)
            self.assertIn(dealing, truth.plains(book))
        else:
            self.same(dealing, None, (book, pair))

    def test_large_books(self):
        for book in samples.large_books():
            for pair in truth.pairs(book):
                plain, cold = plain_with(book, pair), cold_at(book, pair)
                self.assertTrue(plain is None or cold is None)
                for dealing in (plain, cold):
                    if dealing is not None:
                        self.assertTrue(truth.is_dealing(book, dealing))
                        self.same(truth.claims(book, dealing), ())
                self.assertTrue(plain is None or pair in plain)
                self.assertTrue(cold is None or truth.is_cold(book, cold, pair))
        # In the six books side by side each pair is in a plain dealing.
        odd = samples.large_books()[1]
        self.assertTrue(all(plain_with(odd, pair) for pair in truth.pairs(odd)))
