"""Point 15: books made of books."""

from itertools import permutations
from random import Random

from idleclaims.makers import is_shorter, renamed, side_by_side, sides_changed, without_pairs
from tests import samples, truth
from tests.support import Case, no_books


class MakersTest(Case):
    def test_example(self):
        self.same(renamed(samples.TWO, (0, 1, 2), (1, 0)), (((0, 1), (1,), (1, 0)), ((2, 0), (0, 1, 2)), (1, 2)))
        self.same(without_pairs(samples.FOUR, ((3, 0),)), samples.LESS)
        self.same(side_by_side(samples.ODD, samples.ODD), samples.TWICE)
        self.same(sides_changed(samples.FOUR), samples.SIDES)

    def test_without_pairs(self):
        for book in samples.small_books():
            pairs = truth.pairs(book)
            for gone in ((), pairs, pairs[:1], pairs[1:], pairs[::2], pairs[1::3]):
                self.same(without_pairs(book, gone), truth.struck(book, gone))

    def test_side_by_side(self):
        books = samples.EDGES + samples.DOCUMENT
        for book in books:
            for other in books:
                self.same(side_by_side(book, other), samples.beside(book, other))
        self.same(side_by_side(samples.NOBODY, samples.NOBODY), ((), (), ()))

    def test_shorter_books(self):
        for book in samples.small_books():
            pairs = truth.pairs(book)
            for gone in ((), pairs, pairs[:1], pairs[1:], pairs[::2]):
                self.same(is_shorter(book, truth.struck(book, gone)), True)
            for pair in pairs:
                self.same(is_shorter(truth.struck(book, (pair,)), book), False)

    def test_shorter_books_by_all_shorter_ones(self):
        known = {}
        for book in samples.tiny_books():
            pairs = truth.pairs(book)
            subsets = [()]
            for pair in pairs:
                subsets += [subset + (pair,) for subset in subsets]
            known[book] = {truth.struck(book, subset) for subset in subsets}
        for book in samples.tiny_books()[::5]:
            for thing in samples.tiny_books():
                self.same(is_shorter(book, thing), thing in known[book], (book, thing))

    def test_no_shorter_books(self):
        book = (((0, 1), (0,)), ((1, 0), (0,)), (1, 2))
        for thing in no_books():
            self.same(is_shorter(book, thing), False)
        for thing in (
            (((1, 0), (0,)), ((1, 0), (0,)), (1, 2)),
            (((0, 1), (0,)), ((0, 1), (0,)), (1, 2)),
            (((0, 1), (0,)), ((1, 0), (0,)), (1, 1)),
            (((0, 1), (0,)), ((1, 0), (0,)), (2, 2)),
            (((0, 1), (0,), ()), ((1, 0), (0,)), (1, 2)),
            (((0, 1), (0,)), ((1, 0), (0,), ()), (1, 2, 1)),
            (((0, 1), (0, 1)), ((1, 0), (0, 1)), (1, 2)),
            ((), (), ()),
        ):
            self.same(is_shorter(book, thing), False, thing)

    def test_sides_changed(self):
        for book in samples.small_books() + samples.large_books():
            if max(book[2], default=1) == 1:
                self.same(sides_changed(book), (book[1], book[0], (1,) * len(book[0])))
                self.same(sides_changed(sides_changed(book)), book)
        self.same(sides_changed(((), ((), ()), (1, 1))), (((), ()), (), ()))

    def test_renamed_by_all_orders(self):
        book = (((1, 0), (0,), (0, 2, 1)), ((0, 1, 2), (2, 0), (2,)), (2, 1, 10 ** 29))
        for pupils in permutations(range(3)):
            for schools in permutations(range(3)):
                self.renamed_rightly(book, pupils, schools)

    def test_renamed_books(self):
        random = Random(3)
        for book in samples.small_books() + samples.large_books():
            pupils, schools = list(range(len(book[0]))), list(range(len(book[1])))
            random.shuffle(pupils)
            random.shuffle(schools)
            self.renamed_rightly(book, tuple(pupils), tuple(schools))

    def renamed_rightly(self, book, pupils, schools):
        result = renamed(book, pupils, schools)
        self.assertEqual([type(part) for part in (result,) + result], [tuple] * 4)
        self.assertEqual([len(part) for part in result], [len(part) for part in book])
        for a, wish in enumerate(book[0]):
            self.same(result[0][pupils[a]], tuple(schools[b] for b in wish))
        for b, roll in enumerate(book[1]):
            self.same(result[1][schools[b]], tuple(pupils[a] for a in roll))
            self.same(result[2][schools[b]], book[2][b])
