"""Point 41: told pairs and loose pairs."""

from idleclaims.errors import Crowded
from idleclaims.loose import is_loose, loose_by_all, told_by, told_pairs
from tests import samples, truth
from tests.support import Case


class LooseTest(Case):
    def test_example(self):
        following = truth.struck(samples.FOUR, ((3, 0),))
        result = [told_pairs(following), told_by(following, (0, 2)), told_by(samples.SIDES, (0, 3))]
        self.same(result, [((0, 2), (2, 0)), "cold", "down"])

    def test_told(self):
        for book in samples.small_books() + samples.tiny_books():
            reasons = truth.told_reasons(book)
            self.same(told_pairs(book), tuple(sorted(reasons)), book)
            for pair in truth.pairs(book):
                self.same(told_by(book, pair), reasons.get(pair, (None,))[0], (book, pair))

    def test_each_reason_tells_alone(self):
        first = {truth.told_reasons(book)[pair] for book in samples.small_books() for pair in truth.told(book)}
        self.assertTrue({("cold",), ("up",), ("down",), ("rank",), ("down", "rank")} <= first)

    def test_loose_by_all(self):
        for book in samples.small_books() + samples.tiny_books():
            self.same(loose_by_all(book), truth.loose(book), book)

    def test_is_loose(self):
        for book in samples.small_books() + samples.tiny_books():
            crowded = [school for school, many in enumerate(book[2]) if many > 1]
            for pair in truth.pairs(book):
                if crowded:
                    self.refuses(Crowded, {"school": crowded[0]}, is_loose, book, pair)
                else:
                    self.same(is_loose(book, pair), pair in truth.loose(book), (book, pair))

    def test_crowded_comes_first(self):
        for thing in (None, (0, 0), (9, 9)):
            self.refuses(Crowded, {"school": 0}, is_loose, samples.TWO, thing)

    def test_loose_pairs_that_are_not_told(self):
        found = [book for book in samples.small_books() if set(told_pairs(book)) < set(loose_by_all(book))]
        self.assertGreater(len(found), 5)
        for book in found:
            self.assertGreater(max(book[2]), 1)
            for pair in set(loose_by_all(book)) - set(told_pairs(book)):
                self.assertEqual(truth.kind(book, pair), "fall")

    def test_large_books(self):
        for book in samples.large_books():
            told = told_pairs(book)
            plain_pairs = set(truth.asked_by_pupils(book, range(12))[0] + truth.asked_by_schools(book, range(12))[0])
            self.assertFalse(plain_pairs.intersection(told))
            for pair in truth.pairs(book):
                self.assertEqual(told_by(book, pair) is not None, pair in told)
        self.same(told_pairs(samples.large_books()[1]), ())
        self.same(told_pairs(samples.tower(4)), ((2, 0),))

    def test_nobody(self):
        for book in samples.EDGES[:4]:
            self.same(told_pairs(book), ())
            self.same(loose_by_all(book), ())
