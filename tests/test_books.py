"""Point 14: numbers, pairs and likes of a book."""

from idleclaims.books import how_many_pupils, how_many_schools, likes_pupil, likes_school, pairs_of
from tests import samples, truth
from tests.support import Case


class BooksTest(Case):
    def test_example(self):
        self.same(likes_pupil(samples.FOUR, 0, 1, 3), False)
        self.same(likes_pupil(samples.FOUR, 0, 3, 1), True)

    def test_numbers_and_pairs(self):
        for book in samples.small_books() + samples.large_books():
            self.same(how_many_pupils(book), len(book[0]))
            self.same(how_many_schools(book), len(book[1]))
            self.same(pairs_of(book), truth.pairs(book))
        self.same([how_many_pupils(samples.TWO), how_many_schools(samples.TWO)], [3, 2])
        self.same(pairs_of(samples.TWO), ((0, 0), (0, 1), (1, 0), (2, 0), (2, 1)))

    def test_nobody(self):
        self.same([how_many_pupils(samples.NO_PUPILS), how_many_schools(samples.NO_PUPILS)], [0, 2])
        self.same([how_many_pupils(samples.NO_SCHOOLS), how_many_schools(samples.NO_SCHOOLS)], [3, 0])
        for book in samples.EDGES[:4]:
            self.same(pairs_of(book), ())

    def test_likes(self):
        for book in samples.small_books():
            for pupil, wish in enumerate(book[0]):
                self.all_likes(likes_school, book, pupil, wish, len(book[1]))
            for school, roll in enumerate(book[1]):
                self.all_likes(likes_pupil, book, school, roll, len(book[0]))

    def all_likes(self, call, book, owner, listed, many):
        for one in range(many):
            for other in range(many):
                if one not in listed:
                    self.not_usable("one", call, book, owner, one, other)
                elif other not in listed:
                    self.not_usable("other", call, book, owner, one, other)
                else:
                    self.same(call(book, owner, one, other), listed.index(one) < listed.index(other))
