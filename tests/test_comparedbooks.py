"""Point 85: two books compared."""

from random import Random

from idleclaims.comparedbooks import changed_pairs, moved_places, same_rightful
from tests import samples, truth
from tests.support import Case


class ComparedBooksTest(Case):
    def compared(self, book, other):
        same = set(truth.rightfuls(book)) == set(truth.rightfuls(other))
        self.same(same_rightful(book, other), same, (book, other))
        right, other_right = set(truth.rightful_pairs(book)), set(truth.rightful_pairs(other))
        idle, other_idle = set(truth.idle_pairs(book)), set(truth.idle_pairs(other))
        changed = (other_right - right, right - other_right, other_idle - idle, idle - other_idle)
        self.same(changed_pairs(book, other), tuple(tuple(sorted(pairs)) for pairs in changed))
        triples = []
        for a in range(min(len(book[0]), len(other[0]))):
            here, there = truth.place(truth.best(book), a), truth.place(truth.best(other), a)
            if here != there:
                triples.append((a, here, there))
        self.same(moved_places(book, other), tuple(triples))

    def test_by_hand(self):
        four, less = samples.FOUR, samples.LESS
        self.same(same_rightful(four, less), True)
        self.same(changed_pairs(four, less), ((), (), (), ((3, 0),)))
        self.same(moved_places(four, less), ())
        struck = truth.struck(four, ((1, 0),))
        self.same(same_rightful(four, struck), False)
        self.compared(four, struck)

    def test_documented_books_and_edges(self):
        books = samples.DOCUMENT + samples.EDGES
        for book in books:
            for other in books:
                self.compared(book, other)

    def test_books_with_a_pair_less(self):
        for book in samples.small_books()[::5]:
            for pair in truth.pairs(book)[::3]:
                other = truth.struck(book, (pair,))
                self.compared(book, other)
                self.compared(other, book)
                self.same(same_rightful(book, other), pair in truth.idle_pairs(book))

    def test_same_dealings_in_another_sequence(self):
        # The same two rightful dealings, but the pupils like them the other way round.
        other = (((0, 1), (1, 0)), ((1, 0), (0, 1)), (1, 1))
        self.assertNotEqual(truth.rightfuls(samples.ODD), truth.rightfuls(other))
        self.same(same_rightful(samples.ODD, other), True)
        self.same(moved_places(samples.ODD, other), ((0, 1, 0), (1, 0, 1)))

    def test_other_sizes(self):
        more = (samples.FOUR[0] + ((), ()), samples.FOUR[1] + ((),), samples.FOUR[2] + (10 ** 29,))
        self.same(same_rightful(samples.FOUR, more), True)
        self.same(changed_pairs(samples.FOUR, more), ((), (), (), ()))
        self.same(moved_places(samples.FOUR, samples.TWO), ((2, 2, 0),))
        self.same(moved_places(samples.TWO, samples.FOUR), ((2, 0, 2),))

    def test_without_a_place(self):
        self.same(moved_places(samples.NARROW, (((0,), (0,)), ((1, 0),), (1,))), ((0, 0, None), (1, None, 0)))

    def test_small_books(self):
        random = Random(14)
        books = list(samples.small_books())
        random.shuffle(books)
        for book, other in zip(books, books[1:]):
            self.compared(book, other)

    def test_large_books(self):
        tower, odd = samples.large_books()[:2]
        self.same(same_rightful(tower, samples.tower(4)), True)
        self.same(same_rightful(tower, odd), False)
        self.same(same_rightful(odd, truth.struck(odd, ((0, 0),))), False)
        self.same(changed_pairs(tower, truth.struck(tower, ((2, 0),))), ((), (), (), ((2, 0),)))
        self.same(moved_places(odd, truth.struck(odd, ((11, 10),))), ((10, 11, 10), (11, 10, 11)))
