"""Points 57 to 59: plain dealings that waste, what the pupils gain, and what all rightful dealings share."""

from idleclaims.best import best_deal
from idleclaims.exchangerings import led, rings_of
from idleclaims.gains import gain_rings, gains_of
from idleclaims.rightful import is_rightful
from idleclaims.sameplaced import filled_rightful, free_held, placed_rightful
from idleclaims.waste import better_deal, is_wasteful, wasted_ring
from tests import rings, samples, truth, turnbooks
from tests.support import Case

FOUR, TWO, STILL, BEST = samples.FOUR, samples.TWO, samples.STILL, samples.BEST


def betters(book, dealing, other):
    return truth.gainers(book, dealing, other) == () and truth.gainers(book, other, dealing) != ()


class WasteTest(Case):
    def judged(self, book, plain, best):
        """Both results by the words of the document; is plain the best dealing?"""
        ring, better = wasted_ring(book, plain), better_deal(book, plain)
        if plain == best:
            self.same([ring, better], [None, None])
            return True
        self.assertTrue(rings.is_ring(book, plain, ring), (book, plain, ring))
        self.assertTrue(all(truth.pupil_wants(book, plain, pair) for pair in ring))
        self.assertTrue(truth.is_dealing(book, better))
        self.assertTrue(betters(book, better, plain))
        self.assertTrue(betters(book, led(book, plain, ring), plain))
        return False

    def test_example(self):
        self.same([is_wasteful(FOUR), is_wasteful(TWO)], [True, False])
        self.same(wasted_ring(samples.ODD, ((0, 1), (1, 0))), None)
        self.same(sorted(wasted_ring(FOUR, STILL))[0][0], 0)
        self.same([wasted_ring(FOUR, STILL) is None, better_deal(samples.ODD, ((0, 1), (1, 0)))], [False, None])

    def test_all_plain_dealings(self):
        found = {True: 0, False: 0}
        for book in samples.small_books() + samples.tiny_books():
            best = truth.best(book)
            for plain in truth.plains(book):
                found[self.judged(book, plain, best)] += 1
            self.same(is_wasteful(book), truth.top(book) != best)
        self.assertGreater(min(found.values()), 100)

    def test_none_exactly_if_nothing_betters(self):
        for book in samples.small_books()[::2]:
            for plain in truth.plains(book):
                better = any(betters(book, m, plain) for m in truth.dealings(book))
                self.same(better_deal(book, plain) is not None, better)

    def test_what_betters_need_not_be_rightful(self):
        self.assertTrue(betters(FOUR, samples.SWAP, STILL))
        self.same(is_rightful(FOUR, samples.SWAP), False)

    def test_large_books(self):
        for book in samples.large_books() + turnbooks.TURNING:
            every = range(len(book[0]))
            high, low = truth.asked_by_pupils(book, every)[0], truth.asked_by_schools(book, range(len(book[1])))[0]
            best = best_deal(book)
            self.same(is_wasteful(book), not self.judged(book, high, best))
            self.judged(book, low, best)

    def test_nobody(self):
        for book in samples.EDGES[:4]:
            self.same([wasted_ring(book, ()), better_deal(book, ()), is_wasteful(book)], [None, None, False])


class GainsTest(Case):
    def test_example(self):
        found = gain_rings(FOUR)
        self.same([gains_of(FOUR), len(found), sorted(found[0])], [((0, 0, 1), (1, 1, 0)), 1, [(0, 1), (1, 0)]])

    def judged(self, book, before, best):
        gaining = truth.gainers(book, before, best)
        self.same(gains_of(book), tuple((a, truth.place(before, a), truth.place(best, a)) for a in gaining))
        found = gain_rings(book)
        self.assertIs(type(found), tuple)
        here = before
        for ring in found:
            self.assertTrue(rings.is_ring(book, before, ring))
            here = rings.led(here, ring)
        self.same(here, best)
        pairs = [pair for ring in found for pair in ring]
        self.same(sorted(pairs), [pair for pair in best if pair not in before])
        self.assertEqual(len({a for a, _ in pairs}), len(pairs))
        # What rings_of returns for both may be returned.
        self.same(sorted(pairs), sorted(pair for ring in rings_of(book, before, best) for pair in ring))
        return len(found)

    def test_small_books(self):
        most = 0
        for book in samples.small_books() + samples.tiny_books():
            most = max(most, self.judged(book, truth.top(book), truth.best(book)))
        self.assertGreater(most, 0)

    def test_large_books(self):
        most = 0
        for book in samples.large_books() + turnbooks.TURNING:
            most = max(most, self.judged(book, truth.asked_by_pupils(book, range(len(book[0])))[0], best_deal(book)))
        self.assertGreater(most, 1)

    def test_several_rings(self):
        book = samples.beside(FOUR, FOUR)
        self.same(gains_of(book), ((0, 0, 1), (1, 1, 0), (4, 4, 5), (5, 5, 4)))
        self.same(sorted(sorted(ring) for ring in gain_rings(book)), [[(0, 1), (1, 0)], [(4, 5), (5, 4)]])

    def test_nobody(self):
        for book in samples.EDGES[:4] + (TWO, samples.ODD):
            self.same([gains_of(book), gain_rings(book)], [(), ()])


class SamePlacedTest(Case):
    def test_example(self):
        result = [filled_rightful(TWO), free_held(TWO), free_held(TWO[:2] + ((3, 1),))]
        self.same(result, [(2, 1), (), ((0, (1, 2)),)])

    def judged(self, book, dealing):
        self.same(placed_rightful(book), tuple(a for a, _ in dealing))
        self.same(filled_rightful(book), tuple(len(truth.held(dealing, b)) for b in range(len(book[1]))))
        free = [b for b in range(len(book[1])) if not truth.is_full(book, dealing, b)]
        self.same(free_held(book), tuple((b, tuple(truth.held(dealing, b))) for b in free))

    def test_all_rightful_dealings(self):
        """Also G7: they place the same pupils, and schools that are not full hold the same ones."""
        for book in turnbooks.books() + samples.tiny_books():
            for dealing in turnbooks.rightfuls(book):
                self.judged(book, dealing)

    def test_edges(self):
        self.same([placed_rightful(samples.NOBODY), filled_rightful(samples.NOBODY)], [(), ()])
        self.same(free_held(samples.NO_PUPILS), ((0, ()), (1, ())))
        self.same([placed_rightful(samples.NO_SCHOOLS), free_held(samples.NO_SCHOOLS)], [(), ()])
        self.same([filled_rightful(samples.NO_LISTS), free_held(samples.NO_LISTS)], [(0,), ((0, ()),)])
        # Thirty figures of seats; a pupil without a place.
        self.same(free_held(samples.WIDE), ((0, (0, 3)),))
        self.same([placed_rightful(samples.WIDE), filled_rightful(samples.WIDE)], [(0, 1, 3), (2, 1)])
        self.same(placed_rightful(samples.NARROW), (0,))
