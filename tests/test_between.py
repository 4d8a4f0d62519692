"""Point 31: the better and the worse places of two plain dealings."""

from idleclaims.between import better_plain, worse_plain
from idleclaims.errors import NotPlain
from tests import samples, truth
from tests.support import Case


def joined(book, one, two):
    """The dealings with the better and with the worse places."""
    better, worse = [], []
    for a in range(len(book[0])):
        here, there = truth.place(one, a), truth.place(two, a)
        first = truth.likes(book[0][a], here, there)
        better.append((a, here if first else there))
        worse.append((a, there if first else here))
    return [tuple((a, b) for a, b in places if b is not None) for places in (better, worse)]


class BetweenTest(Case):
    def test_example(self):
        one, two = ((0, 1), (1, 0), (2, 2), (3, 3)), ((0, 0), (1, 1), (2, 3), (3, 2))
        better, worse = ((0, 1), (1, 0), (2, 3), (3, 2)), ((0, 0), (1, 1), (2, 2), (3, 3))
        self.same([better_plain(samples.TWICE, one, two), worse_plain(samples.TWICE, one, two)], [better, worse])

    def test_all_plain_dealings(self):
        several = 0
        for book in samples.small_books() + samples.tiny_books():
            for one in truth.plains(book):
                for two in truth.plains(book):
                    several += one != two
                    better, worse = joined(book, one, two)
                    self.same(better_plain(book, one, two), better)
                    self.same(worse_plain(book, one, two), worse)
                    self.assertIn(better, truth.plains(book))
                    self.assertIn(worse, truth.plains(book))
        self.assertGreater(several, 200)

    def test_two_that_none_betters(self):
        # Neither is the better one: one pupil gains what another one loses.
        found = 0
        for book in samples.small_books() + (samples.TWICE,):
            for one in truth.plains(book):
                for two in truth.plains(book):
                    if truth.gainers(book, one, two) and truth.gainers(book, two, one):
                        found += 1
                        self.assertNotIn(better_plain(book, plain=one, other=two), (one, two))
        self.assertGreater(found, 5)

    def test_sixty_four_plain_dealings(self):
        book = samples.large_books()[1]
        high, low = truth.asked_by_pupils(book, range(12))[0], truth.asked_by_schools(book, range(12))[0]
        one = high[:4] + low[4:8] + high[8:]
        two = low[:6] + high[6:]
        self.same(better_plain(book, one, two), high[:4] + low[4:6] + high[6:])
        self.same(worse_plain(book, one, two), low[:8] + high[8:])

    def test_refusals_of_other(self):
        two, above = samples.TWO, samples.ABOVE
        for call in (better_plain, worse_plain):
            self.not_usable("other", call, two, above, None)
            self.not_usable("plain", call, two, None, None)
            self.refuses(NotPlain, {"pair": (0, 0)}, call, two, above, ())
            self.refuses(NotPlain, {"pair": (0, 0)}, call, two, (), ((0, 0), (0, 1)))
            self.refuses(NotPlain, {"pair": (2, 0)}, call, two, above, ((0, 1), (1, 0)))

    def test_nobody(self):
        for book in samples.EDGES[:4]:
            self.same(better_plain(book, (), ()), ())
            self.same(worse_plain(book, (), ()), ())
