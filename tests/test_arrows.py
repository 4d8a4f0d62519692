"""Point 36: rises, falls and arrows."""

from idleclaims.arrows import fall_arrows, falls_at, rise_arrows, rises_at
from tests import samples, truth
from tests.support import Case


class ArrowsTest(Case):
    def test_example(self):
        result = [falls_at(samples.TWO, samples.ABOVE), rise_arrows(samples.FOUR, samples.STILL)]
        self.same(result, [((0, 0), (2, 1)), ((0, 1), (0, 2), (1, 0), (2, 0), (3, 0))])

    def test_by_definition(self):
        for book in samples.small_books() + samples.tiny_books():
            for plain in truth.plains(book):
                self.compared(book, plain)

    def compared(self, book, plain):
        self.same(rises_at(book, plain), truth.rises(book, plain))
        self.same(falls_at(book, plain), truth.falls(book, plain))
        self.same(rise_arrows(book, plain), truth.rise_arrows(book, plain))
        self.same(fall_arrows(book, plain), truth.fall_arrows(book, plain), book)

    def test_large_books(self):
        for book in samples.large_books():
            self.compared(book, truth.asked_by_pupils(book, range(12))[0])
            self.compared(book, truth.asked_by_schools(book, range(12))[0])

    def test_a_pupil_without_a_place(self):
        # Pupil 1 wants school 0, but no arrow leads there, for it has no place.
        self.same(rises_at(samples.NARROW, ((0, 0),)), ((1, 0),))
        self.same(rise_arrows(samples.NARROW, ((0, 0),)), ())

    def test_a_school_that_is_not_full(self):
        # School 1 wants pupil 0, but no fall arrow leads to a school that is not full, or from one.
        self.same(falls_at(samples.NARROW, ((0, 0),)), ((0, 1),))
        self.same(fall_arrows(samples.NARROW, ((0, 0),)), ())
        wide = (((0, 1), (1,)), ((0,), (0, 1)), (2, 1))
        self.same(falls_at(wide, ((0, 0), (1, 1))), ((0, 1),))
        self.same(fall_arrows(wide, ((0, 0), (1, 1))), ())
        self.same(fall_arrows(wide[:2] + ((1, 1),), ((0, 0), (1, 1))), ((0, 1),))

    def test_nobody(self):
        for book in samples.EDGES[:4]:
            for call in (rises_at, falls_at, rise_arrows, fall_arrows):
                self.same(call(book, ()), ())
