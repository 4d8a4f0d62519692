"""Point 18: all dealings and their numbers."""

import inspect
from itertools import islice
from math import comb, factorial
from random import Random

from idleclaims.numbering import all_dealings, dealing_at, how_many_dealings, number_of
from tests import samples, truth
from tests.support import Case


def full_book(pupils, schools, many):
    """All pairs, lists turned by one from owner to owner, so many seats each."""
    wishes = tuple(tuple((a + k) for k in range(schools)) for a in range(pupils))
    wishes = tuple(tuple(b - b // schools * schools for b in wish) for wish in wishes)
    rolls = tuple(tuple((b + k) - (b + k) // pupils * pupils for k in range(pupils)) for b in range(schools))
    return (wishes, rolls, (many,) * schools)


class NumberingTest(Case):
    def test_example(self):
        found = [((0, 1), (1, 0)), ((0, 1),), ((0, 0), (1, 1)), ((0, 0),), ((1, 0),), ((1, 1),), ()]
        self.same(list(all_dealings(samples.ODD)), found)
        self.same(number_of(samples.ODD, ()), 6)

    def test_all_dealings(self):
        for book in samples.small_books() + samples.tiny_books():
            self.same(tuple(all_dealings(book)), truth.dealings(book))
            self.same(how_many_dealings(book), len(truth.dealings(book)))

    def test_numbers_there_and_back(self):
        for book in samples.small_books()[::2] + samples.tiny_books():
            for number, dealing in list(enumerate(truth.dealings(book)))[::5]:
                self.same(number_of(book, dealing), number)
                self.same(dealing_at(book, number), dealing)
            many = len(truth.dealings(book))
            self.same(dealing_at(book, many - 1), ())
            self.same(number_of(book, ()), many - 1)
            for number in (many, -1):
                self.not_usable("many", dealing_at, book, number)

    def test_more_than_three_hundred(self):
        for book in (full_book(4, 4, 2), full_book(5, 3, 2), full_book(4, 5, 1), full_book(5, 4, 1)):
            found = truth.dealings(book)
            self.assertGreater(len(found), 300)
            self.same(how_many_dealings(book), len(found))
            self.same(tuple(all_dealings(book)), found)
            for number, dealing in list(enumerate(found))[::7]:
                self.same(number_of(book, dealing), number)
                self.same(dealing_at(book, number), dealing)

    def test_it_generates(self):
        self.assertTrue(inspect.isgenerator(all_dealings(samples.ODD)))
        self.assertTrue(inspect.isgenerator(all_dealings(book=samples.ODD)))
        # More than a thousand million dealings: only those asked for are made.
        book = full_book(12, 5, 12)
        self.assertGreater(how_many_dealings(book), 10 ** 9)
        first = list(islice(all_dealings(book), 300))
        self.same(first, [dealing_at(book, number) for number in range(300)])

    def test_errors_come_with_the_first_dealing(self):
        for thing in (None, 0, ()):
            dealings = all_dealings(thing)
            with self.assertRaises(Exception):
                next(dealings)

    def test_known_numbers(self):
        for many in range(1, 8):
            total = sum(comb(many, k) ** 2 * factorial(k) for k in range(many + 1))
            self.same(how_many_dealings(full_book(many, many, 1)), total)
        self.same(how_many_dealings(full_book(12, 5, 10 ** 29)), 6 ** 12)
        self.same(how_many_dealings(full_book(12, 5, 12)), 6 ** 12)
        self.same(how_many_dealings(full_book(12, 1, 5)), sum(comb(12, k) for k in range(6)))
        self.same(how_many_dealings(full_book(1, 12, 1)), 13)

    def test_large_books_there_and_back(self):
        random = Random(2)
        for book in samples.large_books() + (full_book(12, 5, 10 ** 29), full_book(12, 5, 2)):
            many = how_many_dealings(book)
            numbers = sorted([0, many - 1] + [random.randrange(many) for _ in range(3)])
            dealings = [dealing_at(book, number) for number in numbers]
            self.assertTrue(all(truth.is_dealing(book, dealing) for dealing in dealings))
            self.same([number_of(book, dealing) for dealing in dealings], numbers)
            self.same(dealings[0], next(all_dealings(book)))
            self.same(dealings[-1], ())
            keys = [self.key(book, dealing) for dealing in dealings]
            self.assertEqual(keys, sorted(keys))

    def key(self, book, dealing):
        places = [truth.place(dealing, pupil) for pupil in range(len(book[0]))]
        return [(wish + (None,)).index(place) for wish, place in zip(book[0], places)]

    def test_nobody(self):
        for book in samples.EDGES[:4]:
            self.same(list(all_dealings(book)), [()])
            self.same(how_many_dealings(book), 1)
            self.same(dealing_at(book, 0), ())
            self.same(number_of(book, ()), 0)
            self.not_usable("many", dealing_at, book, 1)
