"""Point 39: followers and ranks."""

from copy import deepcopy
from itertools import product

from idleclaims.ranks import followers_of, lets_ranks, told_ranks
from tests import samples, truth
from tests.support import Case


class RanksTest(Case):
    def test_example(self):
        result = [followers_of(samples.SIDES, samples.STILL, 0), told_ranks(samples.SIDES, samples.STILL)]
        self.same(result, [(1, 2, 3), (None, None, None, 0)])

    def test_by_definition(self):
        for book in samples.small_books() + samples.tiny_books():
            for plain in truth.plains(book):
                self.compared(book, plain)

    def compared(self, book, plain):
        for school in range(len(book[1])):
            self.same(followers_of(book, plain, school), truth.followers(book, plain, school))
        ranks = truth.told_ranks(book, plain)
        self.same(told_ranks(book, plain), ranks)
        self.same(lets_ranks(book, plain, ranks), True)

    def test_large_books(self):
        for book in samples.large_books():
            self.compared(book, truth.asked_by_pupils(book, range(12))[0])
            self.compared(book, truth.asked_by_schools(book, range(12))[0])

    def test_a_row_of_followers(self):
        # Each school's pupil is wanted by the next school; the last one has no follower.
        book = (((0, 1), (1, 2), (2, 3), (3,)), ((0,), (0, 1), (1, 2), (2, 3)), (1, 1, 1, 1))
        self.same(told_ranks(book, samples.STILL), (3, 2, 1, 0))
        self.same(followers_of(book, samples.STILL, 0), (1,))
        self.same(followers_of(book, samples.STILL, 3), ())
        # School 3 with two seats is not full: it follows nobody.
        self.same(told_ranks(book[:2] + ((1, 1, 1, 2),), samples.STILL), (2, 1, 0, 0))

    def test_the_greatest_follower_counts(self):
        book = (((0, 1, 2), (1, 2), (2,)), ((0,), (0, 1), (1, 0, 2)), (1, 1, 1))
        plain = ((0, 0), (1, 1), (2, 2))
        self.same(truth.claims(book, plain), ())
        self.same(told_ranks(book, plain), (2, 1, 0))

    def test_ranks_by_all_small_numbers(self):
        for book in samples.small_books()[::4]:
            many = len(book[1])
            if many < 5:
                for plain in truth.plains(book)[:2]:
                    for thing in product((None, 0, 1, 2), repeat=many):
                        expected = truth.are_ranks(book, plain, thing)
                        self.same(lets_ranks(book, plain, thing), expected, (book, plain, thing))

    def test_told_ranks_are_the_least(self):
        for book in samples.small_books()[::4]:
            for plain in truth.plains(book)[:2]:
                told = told_ranks(book, plain)
                for thing in product((None, 0, 1, 2), repeat=min(4, len(book[1]))):
                    if truth.are_ranks(book, plain, thing):
                        for rank, least in zip(thing, told):
                            self.assertTrue(rank is None or least is not None and least <= rank)

    def test_no_ranks(self):
        book, plain = samples.ODD, ((0, 1), (1, 0))
        things = [None, 1, True, "", "00", (), (None,), (None, None, None), [None, None], [], (None, -1), (None, "0")]
        for thing in things + [(None, True), (False, None), ((0,), None), (None, [0]), (0, 0), (0, None), (1, 0)]:
            before = deepcopy(thing)
            self.same(lets_ranks(book, plain, thing), False, thing)
            self.same(thing, before)
        self.same(lets_ranks(book, plain, (None, None)), True)
        self.same(lets_ranks(book, ((0, 0), (1, 1)), (0, 10 ** 59)), True)

    def test_nobody(self):
        for book in samples.EDGES[:4]:
            many = len(book[1])
            self.same(told_ranks(book, ()), (0,) * many)
            self.same(lets_ranks(book, (), (None,) * many), True)
            self.same(lets_ranks(book, (), (5,) * many), True)
            self.same(lets_ranks(book, (), (0,) * (many + 1)), False)
            for school in range(many):
                self.same(followers_of(book, (), school), ())
