"""Point 20: how pupils compare dealings."""

from idleclaims.comparing import at_least, betters, gainers, losers
from tests import samples, truth
from tests.support import Case


class ComparingTest(Case):
    def test_by_definition(self):
        for book in samples.small_books() + samples.tiny_books():
            dealings = truth.dealings(book)
            chosen = dealings[::max(1, len(dealings) // 8)]
            for dealing in chosen:
                for other in chosen:
                    self.compared(book, dealing, other)

    def compared(self, book, dealing, other):
        gain, loss = truth.gainers(book, dealing, other), truth.gainers(book, other, dealing)
        self.same(gainers(book, dealing, other), gain)
        self.same(losers(book, dealing, other), loss)
        self.same(betters(book, dealing, other), bool(loss) and not gain)
        self.same(at_least(book, dealing, other), not gain)

    def test_by_hand(self):
        four, still, best = samples.FOUR, samples.STILL, samples.BEST
        self.same(betters(four, best, still), True)
        self.same(betters(four, still, best), False)
        self.same(betters(four, best, best), False)
        self.same(at_least(four, best, best), True)
        self.same(gainers(four, still, best), (0, 1))
        self.same(losers(four, best, still), (0, 1))
        self.same(losers(four, still, ((0, 0), (1, 1), (3, 0))[:2]), (2, 3))
        self.same(gainers(four, ((0, 1),), ((1, 1),)), (1,))
        self.same(losers(four, ((0, 1),), ((1, 1),)), (0,))
        self.same(betters(four, ((0, 1),), ()), True)
        self.same(betters(four, (), ()), False)

    def test_nobody(self):
        for book in samples.EDGES[:4]:
            self.same(betters(book, (), ()), False)
            self.same(at_least(book, (), ()), True)
            self.same(gainers(book, (), ()), ())
            self.same(losers(book, (), ()), ())
