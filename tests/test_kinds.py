"""Point 13: the kinds of things."""

from copy import deepcopy
from inspect import signature

from idleclaims import kinds
from tests import samples, truth
from tests.support import Case, no_books, no_dealings, no_pairs_at_all, no_sets_of_pairs

NO_INTEGERS = (None, True, False, "", "1", (), (1,), [1], [])


class KindsTest(Case):
    def judged(self, call, expected, *args):
        before = deepcopy(args)
        self.same(call(*args), expected, (call.__name__, args))
        self.same(args, before)

    def test_names(self):
        for name in ("is_integer", "is_number", "is_book"):
            self.assertEqual(list(signature(getattr(kinds, name)).parameters), ["thing"])
        for name in ("is_pair", "is_pairs", "is_dealing"):
            self.assertEqual(list(signature(getattr(kinds, name)).parameters), ["book", "thing"])
        self.same(kinds.is_integer(thing=-3), True)
        self.same(kinds.is_number(thing=-3), False)
        self.same(kinds.is_book(thing=samples.FOUR), True)
        self.same(kinds.is_pair(thing=(3, 0), book=samples.FOUR), True)
        self.same(kinds.is_pairs(thing=((3, 0),), book=samples.FOUR), True)
        self.same(kinds.is_dealing(thing=samples.BEST, book=samples.FOUR), True)

    def test_integers_and_numbers(self):
        for thing in NO_INTEGERS:
            self.judged(kinds.is_integer, False, thing)
            self.judged(kinds.is_number, False, thing)
        for thing in (-1, -(10 ** 59)):
            self.judged(kinds.is_integer, True, thing)
            self.judged(kinds.is_number, False, thing)
        for thing in (0, 1, 10 ** 59):
            self.judged(kinds.is_integer, True, thing)
            self.judged(kinds.is_number, True, thing)

    def test_books(self):
        for book in samples.small_books() + samples.tiny_books() + samples.large_books():
            self.judged(kinds.is_book, True, book)
        for thing in no_books():
            self.judged(kinds.is_book, False, thing)

    def test_seats_of_any_size(self):
        for many in (1, 2, 10 ** 29, 10 ** 59):
            self.judged(kinds.is_book, True, (((0,),), ((0,),), (many,)))

    def test_thirty_pupils_and_schools(self):
        full = tuple(range(30))
        book = ((full,) * 30, (full,) * 30, (1,) * 30)
        self.judged(kinds.is_book, True, book)
        self.judged(kinds.is_book, False, ((full,) * 30, (full,) * 29 + (full[1:],), (1,) * 30))
        self.judged(kinds.is_book, False, ((full,) * 29 + (full[1:],), (full,) * 30, (1,) * 30))
        self.judged(kinds.is_book, False, ((full,) * 30, (full,) * 30, (1,) * 29 + (0,)))
        every = tuple((a, b) for a in range(30) for b in range(30))
        self.judged(kinds.is_pairs, True, book, every)
        self.judged(kinds.is_pairs, False, book, every + ((30, 0),))
        self.judged(kinds.is_pair, True, book, (29, 29))
        self.judged(kinds.is_pair, False, book, (29, 30))
        self.judged(kinds.is_dealing, True, book, tuple((a, 29 - a) for a in range(30)))
        self.judged(kinds.is_dealing, False, book, tuple((a, min(28, a)) for a in range(30)))
        wide = ((full,) * 30, (full,) * 30, (10 ** 29,) * 30)
        self.judged(kinds.is_dealing, True, wide, tuple((a, 7) for a in range(30)))
        self.judged(kinds.is_dealing, False, wide, ((0, 1), (0, 2)))
        empty = (((),) * 30, ((),) * 30, (10 ** 29,) * 30)
        self.judged(kinds.is_book, True, empty)
        self.judged(kinds.is_pairs, True, empty, ())
        self.judged(kinds.is_pair, False, empty, (0, 0))

    def test_large_and_deep_things(self):
        deep = ()
        for _ in range(30):
            deep = (deep,)
        for thing in (deep, (deep,) * 3, ((0, 0),) * 2400, (0,) * 5000, "x" * 4000, list(range(5000))):
            for call in (kinds.is_integer, kinds.is_number, kinds.is_book):
                self.judged(call, False, thing)
            for call in (kinds.is_pair, kinds.is_pairs, kinds.is_dealing):
                self.judged(call, False, samples.FOUR, thing)

    def test_pairs_of_all_small_books(self):
        for book in samples.small_books():
            pairs = truth.pairs(book)
            for a in range(-1, len(book[0]) + 1):
                for b in range(-1, len(book[1]) + 1):
                    self.same(kinds.is_pair(book, (a, b)), (a, b) in pairs)
            self.judged(kinds.is_pairs, True, book, ())
            self.judged(kinds.is_pairs, True, book, pairs)
            self.judged(kinds.is_pairs, True, book, pairs[1::2])
            self.judged(kinds.is_pairs, len(pairs) < 2, book, pairs[::-1])
            self.judged(kinds.is_pairs, False, book, list(pairs))

    def test_dealings_of_small_books(self):
        for book in samples.small_books():
            for dealing in truth.dealings(book):
                self.same(kinds.is_dealing(book, dealing), True)
                self.same(kinds.is_pairs(book, dealing), True)
            known = set(truth.dealings(book))
            pairs = truth.pairs(book)
            for one in pairs:
                for two in pairs:
                    self.same(kinds.is_dealing(book, (one, two)), (one, two) in known)
            for k in range(len(pairs)):
                for length in (3, 4):
                    self.same(kinds.is_dealing(book, pairs[k:k + length]), pairs[k:k + length] in known)

    def test_wrong_things(self):
        for book in (samples.FOUR, samples.TWO, samples.ODD):
            for thing in no_pairs_at_all(book):
                self.judged(kinds.is_pair, False, book, thing)
            for thing in no_sets_of_pairs(book):
                self.judged(kinds.is_pairs, False, book, thing)
            for thing in no_dealings(book):
                self.judged(kinds.is_dealing, False, book, thing)
