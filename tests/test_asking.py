"""Point 23: pupils ask, schools ask."""

from itertools import permutations

from idleclaims.asking import pupils_deal, refused_asked, refused_asking, schools_deal
from tests import samples, truth
from tests.support import Case


class AskingTest(Case):
    def test_examples(self):
        self.same([pupils_deal(samples.ODD), schools_deal(samples.ODD)], [((0, 1), (1, 0)), ((0, 0), (1, 1))])
        refused = [refused_asked(samples.FOUR), refused_asking(samples.FOUR)]
        self.same(refused, [((0, 1), (0, 2), (1, 0), (2, 0), (3, 0)), ()])

    def test_best_and_worst_of_all_plain(self):
        for book in samples.small_books() + samples.tiny_books():
            self.same(pupils_deal(book), truth.top(book), book)
            self.same(schools_deal(book), truth.bottom(book), book)

    def test_refused(self):
        for book in samples.small_books() + samples.tiny_books():
            pupils, schools = range(len(book[0])), range(len(book[1]))
            self.same(refused_asked(book), truth.asked_by_pupils(book, pupils)[1], book)
            self.same(refused_asking(book), truth.asked_by_schools(book, schools)[1], book)

    def test_no_order_matters(self):
        for book in (samples.FOUR, samples.TWO, samples.SIDES, samples.NARROW, samples.WIDE):
            asked = (pupils_deal(book), refused_asked(book))
            for order in permutations(range(len(book[0]))):
                self.same(truth.asked_by_pupils(book, order), asked)
            asking = (schools_deal(book), refused_asking(book))
            for order in permutations(range(len(book[1]))):
                self.same(truth.asked_by_schools(book, order), asking)

    def test_without_a_place(self):
        self.same(pupils_deal(samples.NARROW), ((0, 0),))
        self.same(schools_deal(samples.NARROW), ((0, 0),))
        self.same(refused_asked(samples.NARROW), ((1, 0),))
        self.same(refused_asking(samples.NARROW), ((0, 1),))

    def test_thirty_figures_of_seats(self):
        self.same(pupils_deal(samples.WIDE), ((0, 0), (1, 1), (3, 0)))
        self.same(schools_deal(samples.WIDE), ((0, 0), (1, 1), (3, 0)))
        self.same(refused_asking(samples.WIDE), ((0, 1), (1, 0)))
        self.same(refused_asked(samples.WIDE), ())

    def test_nobody(self):
        for book in samples.EDGES[:4]:
            for call in (pupils_deal, schools_deal, refused_asked, refused_asking):
                self.same(call(book), ())

    def test_large_books(self):
        for book in samples.large_books():
            pupils, schools = range(12), range(12)
            self.same((pupils_deal(book), refused_asked(book)), truth.asked_by_pupils(book, pupils))
            self.same((schools_deal(book), refused_asking(book)), truth.asked_by_schools(book, schools))
            self.same(truth.claims(book, pupils_deal(book)), ())
            self.same(truth.claims(book, schools_deal(book)), ())
