"""Point 84: a pair, a pupil or a school more, and other seats."""

from random import Random

from idleclaims.adding import with_pair, with_pupil, with_school, with_seats
from idleclaims.kinds import is_book
from tests import samples, truth
from tests.support import Case


def absent_pairs(book):
    every = [(a, b) for a in range(len(book[0])) for b in range(len(book[1]))]
    return [pair for pair in every if pair not in truth.pairs(book)]


class AddingTest(Case):
    def test_example(self):
        expected = (((1, 0), (1, 0), (0, 1)), ((0, 1, 2), (2, 0, 1)), (2, 1))
        self.same(with_pair(samples.TWO, 1, 1, 0, 2), expected)

    def test_pairs_struck_are_put_back(self):
        for book in samples.small_books()[::2] + samples.large_books():
            for a, b in truth.pairs(book)[::3]:
                shorter = truth.struck(book, ((a, b),))
                place, other = book[0][a].index(b), book[1][b].index(a)
                self.same(with_pair(shorter, a, b, place, other), book)

    def test_every_place(self):
        for book in samples.DOCUMENT + samples.EDGES:
            for a, b in absent_pairs(book):
                wish, roll = book[0][a], book[1][b]
                for place in range(len(wish) + 1):
                    for other in range(len(roll) + 1):
                        result = with_pair(book, pupil=a, school=b, place=place, other=other)
                        self.same(is_book(result), True)
                        self.same(truth.struck(result, ((a, b),)), book)
                        self.same((result[0][a][place], result[1][b][other]), (b, a))
                self.not_usable("place", with_pair, book, a, b, len(wish) + 1, len(roll) + 1)
                self.not_usable("other", with_pair, book, a, b, len(wish), len(roll) + 1)

    def test_pairs_that_are_there(self):
        for book in samples.small_books()[::4]:
            for a, b in truth.pairs(book):
                self.not_usable("school", with_pair, book, a, b, 0, 0)

    def test_pupils_and_schools(self):
        for book in samples.small_books() + samples.large_books():
            wishes, rolls, seats = book
            self.same(with_pupil(book), (wishes + ((),), rolls, seats))
            for many in (1, 2, 10 ** 29, 10 ** 59):
                self.same(with_school(book, many), (wishes, rolls + ((),), seats + (many,)))
                for school in range(len(rolls)):
                    expected = (wishes, rolls, seats[:school] + (many,) + seats[school + 1:])
                    self.same(with_seats(book, school, many), expected)
        self.same(with_pupil(book=samples.NOBODY), (((),), (), ()))
        self.same(with_school(many=3, book=samples.NOBODY), ((), ((),), (3,)))
        self.same(with_seats(samples.NO_PUPILS, many=3, school=1), ((), ((), ()), (1, 3)))

    def test_a_new_pupil_and_a_new_school_are_quiet(self):
        random = Random(36)
        for book in random.sample(samples.small_books(), 40):
            self.same(truth.rightfuls(with_pupil(book)), truth.rightfuls(book))
            self.same(truth.rightfuls(with_school(book, 2)), truth.rightfuls(book))
