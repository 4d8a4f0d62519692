"""Point 56: the best dealing."""

from idleclaims.best import at_best, best_by_rises, best_deal, worst_deal
from tests import samples, truth
from tests.support import Case
from tests.test_rightful import tower_dealings


def rounds_of(book):
    """The rounds of best_by_rises by the words of the document, and the dealing at the end."""
    rounds, left = [], book
    while True:
        dealing, refused = truth.asked_by_pupils(left, range(len(left[0])))
        if not refused:
            return (tuple(rounds), dealing)
        heights = truth.told_heights(len(left[1]), truth.rise_arrows(left, dealing))
        rounds.append(truth.struck_pairs(left, dealing, "up", heights))
        left = truth.struck(left, rounds[-1])


class BestTest(Case):
    def test_examples(self):
        two = samples.TWO
        self.same([best_deal(two), worst_deal(two)], [((0, 1), (1, 0), (2, 0)), ((0, 0), (1, 0), (2, 1))])
        self.same(best_by_rises(samples.FOUR), ((((3, 0),), ((2, 0),)), ((0, 1), (1, 0), (2, 2), (3, 3))))

    def test_best_and_worst_of_all_rightful(self):
        for book in samples.small_books() + samples.tiny_books():
            best = truth.best(book)
            self.same(best_deal(book), best, book)
            self.same(worst_deal(book), truth.worst_rightful(book), book)
            for pupil in range(len(book[0])):
                self.same(at_best(book, pupil), truth.place(best, pupil))

    def test_best_by_rises(self):
        for book in samples.small_books() + samples.tiny_books() + samples.large_books():
            result = best_by_rises(book)
            self.same(result, rounds_of(book), book)
            self.same(result[1], best_deal(book))
            self.assertNotIn((), result[0])

    def test_towers(self):
        for many in (1, 2, 3, 4):
            book = samples.tower(many)
            self.same(best_deal(book), tower_dealings(many)[0])
            self.same(worst_deal(book), tower_dealings(many)[-1])
            for pupil, school in tower_dealings(many)[0]:
                self.same(at_best(book, pupil), school)

    def test_nobody_is_refused(self):
        self.same(best_by_rises(samples.ODD), ((), ((0, 1), (1, 0))))
        self.same(at_best(samples.NARROW, 1), None)
        self.same(at_best(samples.WIDE, 2), None)
        for book in samples.EDGES[:4]:
            self.same([best_deal(book), worst_deal(book), best_by_rises(book)], [(), (), ((), ())])
            for pupil in range(len(book[0])):
                self.same(at_best(book, pupil), None)
