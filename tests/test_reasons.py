"""Point 40: what reasons strike."""

from itertools import product
from random import Random

from idleclaims.reasons import struck_cold, struck_down, struck_rank, struck_up
from tests import samples, truth
from tests.support import Case


class ReasonsTest(Case):
    def test_examples(self):
        up = struck_up(samples.FOUR, samples.STILL, (0, 0, 0, 0))
        down = struck_down(samples.SIDES, samples.STILL, (3, 3, 3, 4))
        self.same([up, down], [(), ((0, 3),)])
        self.same(struck_up(samples.FOUR, samples.STILL, (4, 4, 4, 1)), ((3, 0),))
        self.same(struck_rank((((0, 1),), ((0,), (0,)), (1, 1)), ((0, 0),), (None, 3)), ((0, 1),))
        self.same(struck_cold(samples.LESS, samples.BEST), ((0, 2),))

    def test_told_marks(self):
        for book in samples.small_books() + samples.tiny_books():
            for plain in truth.plains(book):
                self.compared(book, plain)

    def compared(self, book, plain):
        many = len(book[1])
        rising = truth.told_heights(many, truth.rise_arrows(book, plain))
        falling = truth.told_heights(many, truth.fall_arrows(book, plain))
        ranks = truth.told_ranks(book, plain)
        self.same(struck_cold(book, plain), truth.struck_pairs(book, plain, "cold", ()))
        self.same(struck_up(book, plain, rising), truth.struck_pairs(book, plain, "up", rising))
        self.same(struck_down(book, plain, falling), truth.struck_pairs(book, plain, "down", falling))
        self.same(struck_rank(book, plain, ranks), truth.struck_pairs(book, plain, "rank", ranks))

    def test_large_books(self):
        for book in samples.large_books():
            self.compared(book, truth.asked_by_pupils(book, range(12))[0])
            self.compared(book, truth.asked_by_schools(book, range(12))[0])

    def test_any_marks(self):
        random = Random(8)
        for book in samples.small_books()[::3]:
            many = len(book[1])
            for plain in truth.plains(book):
                rising, falling = truth.rise_arrows(book, plain), truth.fall_arrows(book, plain)
                for marks in random.sample(list(product(range(3), repeat=many)), min(9, 3 ** many)):
                    right = truth.are_heights(many, rising, marks)
                    self.marked(right, "up", struck_up, "heights", book, plain, marks)
                    right = truth.are_heights(many, falling, marks)
                    self.marked(right, "down", struck_down, "heights", book, plain, marks)
                for marks in random.sample(list(product((None, 0, 1), repeat=many)), min(9, 3 ** many)):
                    right = truth.are_ranks(book, plain, marks)
                    self.marked(right, "rank", struck_rank, "ranks", book, plain, marks)

    def marked(self, right, reason, call, name, book, plain, marks):
        if right:
            self.same(call(book, plain, marks), truth.struck_pairs(book, plain, reason, marks))
        else:
            self.not_usable(name, call, book, plain, marks)

    def test_right_marks_strike_no_more_than_told_ones(self):
        random = Random(18)
        for book in samples.small_books()[::3]:
            many = len(book[1])
            for plain in truth.plains(book):
                rising, falling = truth.rise_arrows(book, plain), truth.fall_arrows(book, plain)
                up = set(struck_up(book, plain, truth.told_heights(many, rising)))
                down = set(struck_down(book, plain, truth.told_heights(many, falling)))
                rank = set(struck_rank(book, plain, truth.told_ranks(book, plain)))
                for marks in random.sample(list(product(range(3), repeat=many)), min(9, 3 ** many)):
                    if truth.are_heights(many, rising, marks):
                        self.assertLessEqual(set(struck_up(book, plain, marks)), up)
                    if truth.are_heights(many, falling, marks):
                        self.assertLessEqual(set(struck_down(book, plain, marks)), down)
                    if truth.are_ranks(book, plain, marks):
                        self.assertLessEqual(set(struck_rank(book, plain, marks)), rank)

    def test_reasons_that_exclude_one_another(self):
        for book in samples.small_books():
            many = len(book[1])
            for plain in truth.plains(book):
                cold = set(struck_cold(book, plain))
                up = set(struck_up(book, plain, truth.told_heights(many, truth.rise_arrows(book, plain))))
                down = set(struck_down(book, plain, truth.told_heights(many, truth.fall_arrows(book, plain))))
                down.update(struck_rank(book, plain, truth.told_ranks(book, plain)))
                self.assertFalse(cold & up or cold & down or up & down)

    def test_what_is_struck_is_loose(self):
        for book in samples.small_books():
            many = len(book[1])
            loose = truth.loose(book)
            for plain in truth.plains(book):
                rising = truth.told_heights(many, truth.rise_arrows(book, plain))
                falling = truth.told_heights(many, truth.fall_arrows(book, plain))
                found = struck_cold(book, plain) + struck_up(book, plain, rising)
                found += struck_down(book, plain, falling) + struck_rank(book, plain, truth.told_ranks(book, plain))
                self.assertTrue(set(found) <= set(loose))

    def test_a_pupil_without_a_place(self):
        self.same(struck_up(samples.NARROW, ((0, 0),), (0, 0)), ((1, 0),))
        self.same(struck_up(samples.NARROW, ((0, 0),), (7, 3)), ((1, 0),))

    def test_schools_that_are_not_full(self):
        # The school that wants is not full.
        self.same(struck_down(samples.NARROW, ((0, 0),), (0, 0)), ((0, 1),))
        # The place of the pupil is not full.
        book = (((0, 1), (1,)), ((0,), (0, 1)), (2, 1))
        self.same(struck_down(book, ((0, 0), (1, 1)), (1, 0)), ((0, 1),))
        self.same(struck_down(book[:2] + ((1, 1),), ((0, 0), (1, 1)), (0, 0)), ())
        self.same(struck_down(book[:2] + ((1, 1),), ((0, 0), (1, 1)), (0, 1)), ((0, 1),))

    def test_wrong_marks(self):
        plain = ((0, 1), (1, 0))
        for marks in (None, (), (0,), (0, 0, 0), [0, 0], "00", (0, -1), (0, True), (0, None), (0, 1)):
            self.not_usable("heights", struck_down, samples.ODD, plain, marks)
        for marks in (None, (), (0,), (0, 0, 0), [0, 0], "00", (0, -1), (0, True), (0, None)):
            self.not_usable("heights", struck_up, samples.ODD, plain, marks)
        for marks in (None, (), (None,), [None, None], (None, -1), (0, 0), (0, None), (None, True)):
            self.not_usable("ranks", struck_rank, samples.ODD, plain, marks)

    def test_nobody(self):
        for book in samples.EDGES[:4]:
            zero = (0,) * len(book[1])
            self.same(struck_cold(book, ()), ())
            for call in (struck_up, struck_down, struck_rank):
                self.same(call(book, (), zero), ())
