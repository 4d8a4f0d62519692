"""Point 45: the last book."""

from random import Random

from idleclaims.lastbook import idle_pairs, is_last, last_book, rightful_pairs
from tests import samples, truth
from tests.support import Case


class LastBookTest(Case):
    def test_example(self):
        four = (((1, 0), (0, 1), (2,), (3,)), ((0, 1), (1, 0), (2,), (3,)), (1, 1, 1, 1))
        self.same(last_book(samples.FOUR), four)
        self.same([idle_pairs(samples.FOUR), idle_pairs(samples.ODD)], [((0, 2), (2, 0), (3, 0)), ()])

    def test_by_the_hearing(self):
        for book in samples.small_books() + samples.tiny_books():
            self.same(rightful_pairs(book), truth.rightful_pairs(book), book)
            self.same(idle_pairs(book), truth.idle_pairs(book), book)
            self.same(last_book(book), truth.struck(book, truth.idle_pairs(book)))
            self.same(is_last(book), truth.idle_pairs(book) == ())
            self.same(is_last(last_book(book)), True)

    def test_striking_idle_pairs_keeps_it(self):
        random = Random(11)
        for book in samples.small_books():
            idle = truth.idle_pairs(book)
            some = tuple(pair for pair in idle if random.random() < 0.5)
            for gone in (idle[:1], some, idle):
                self.same(last_book(truth.struck(book, gone)), last_book(book))

    def test_striking_a_rightful_pair_does_not(self):
        for book in samples.small_books():
            for pair in truth.rightful_pairs(book):
                self.assertNotEqual(last_book(truth.struck(book, (pair,))), last_book(book))

    def test_each_pair_is_in_a_plain_dealing_there(self):
        for book in samples.small_books():
            left = last_book(book)
            found = {pair for plain in truth.plains(left) for pair in plain}
            self.assertEqual(found, set(truth.pairs(left)))

    def test_towers(self):
        for many in (1, 2, 3, 4):
            book = samples.tower(many)
            rightful = tuple(sorted((3 * i + k, 3 * i + j) for i in range(many) for k, j in samples.STOREY))
            self.same(rightful_pairs(book), rightful)
            self.same(idle_pairs(book), tuple(pair for pair in truth.pairs(book) if pair not in rightful))
            self.same(is_last(book), False)

    def test_large_books(self):
        for book in samples.large_books():
            left = last_book(book)
            self.same(truth.asked_by_pupils(left, range(12))[1], ())
            self.same(truth.asked_by_schools(left, range(12))[1], ())
            self.same(truth.struck(book, idle_pairs(book)), left)
            self.same(tuple(sorted(rightful_pairs(book) + idle_pairs(book))), truth.pairs(book))

    def test_nobody(self):
        for book in samples.EDGES[:4]:
            self.same(last_book(book), book)
            self.same(is_last(book), True)
            self.same(rightful_pairs(book), ())
            self.same(idle_pairs(book), ())
