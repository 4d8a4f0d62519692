"""Point 38: rings along rise arrows and along fall arrows."""

from idleclaims.exchangerings import led
from idleclaims.rings import any_rise_ring, fall_ring, rise_ring
from tests import rings, samples, truth
from tests.support import Case


def rising(book, plain):
    return truth.rises(book, plain)


def falling(book, plain):
    """The pairs whose schools, each full, want their pupils."""
    return tuple((a, b) for a, b in truth.falls(book, plain) if truth.is_full(book, plain, b))


class RingsTest(Case):
    def ring_of(self, book, plain, pairs, ring):
        """Is this a ring at plain of some of these pairs, its schools different?"""
        self.assertTrue(rings.is_ring(book, plain, ring), ring)
        self.assertTrue(set(ring) <= set(pairs), ring)
        schools = [b for _, b in ring]
        self.assertEqual(len(set(schools)), len(schools))

    def begun(self, call, book, plain, pairs, pair):
        """The ring that the call gives must begin with the pair; None exactly if there is none."""
        ring = call(book, plain, pair)
        a, b = pair
        here = truth.place(plain, a)
        arrows = {(truth.place(plain, c), d) for c, d in pairs if truth.place(plain, c) is not None}
        if pair in pairs and here is not None and rings.leads(arrows, b, here):
            self.ring_of(book, plain, pairs, ring)
            self.same(ring[0], pair)
        else:
            self.same(ring, None)
        return ring

    def test_example(self):
        four, still = samples.FOUR, samples.STILL
        result = [rise_ring(four, still, (0, 1)), rise_ring(four, still, (3, 0))]
        self.same(result, [((0, 1), (1, 0)), None])
        self.same(fall_ring(samples.TWO, samples.ABOVE, (2, 1)), ((2, 1), (0, 0)))

    def test_all_pairs(self):
        found = {}
        for book in samples.small_books() + samples.tiny_books()[::3]:
            for plain in truth.plains(book):
                for call, pairs in ((rise_ring, rising(book, plain)), (fall_ring, falling(book, plain))):
                    for pair in truth.pairs(book):
                        ring = self.begun(call, book, plain, pairs, pair)
                        key = call, None if ring is None else len(ring)
                        found[key] = found.get(key, 0) + 1
        for call in (rise_ring, fall_ring):
            for length in (None, 2, 3):
                self.assertGreater(found[call, length], 5, (call, length))

    def test_by_all_rings(self):
        for book in samples.small_books()[::6]:
            for plain in truth.plains(book):
                for call, pairs in ((rise_ring, rising(book, plain)), (fall_ring, falling(book, plain))):
                    for pair in truth.pairs(book):
                        every = rings.all_rings(book, plain, pairs, pair)
                        ring = call(book, plain=plain, pair=pair)
                        self.assertTrue(ring in every if every else ring is None)

    def test_arrows_on_rings(self):
        """A pair whose pupil wants has no ring exactly if its arrow is on none, or the pupil has no place."""
        for book in samples.small_books()[::2]:
            for plain in truth.plains(book):
                arrows = truth.rise_arrows(book, plain)
                for a, b in truth.rises(book, plain):
                    here = truth.place(plain, a)
                    open_one = here is not None and rings.leads(arrows, b, here)
                    ring = rise_ring(book, plain, (a, b))
                    self.same(ring is not None, open_one)
                    if ring is not None:
                        there = led(book, plain, ring)
                        self.same(truth.gainers(book, there, plain), ())
                        self.assertNotEqual(truth.gainers(book, plain, there), ())

    def test_any_rise_ring(self):
        found = 0
        for book in samples.small_books() + samples.tiny_books():
            for plain in truth.plains(book):
                ring = any_rise_ring(book, plain)
                pairs = rising(book, plain)
                arrows = truth.rise_arrows(book, plain)
                if any(rings.leads(arrows, end, start) for start, end in arrows):
                    found += 1
                    self.ring_of(book, plain, pairs, ring)
                else:
                    self.same(ring, None)
                # By G6 there is none exactly at the best dealing.
                if book in samples.small_books():
                    self.same(ring is None, plain == truth.best(book))
        self.assertGreater(found, 50)

    def test_longer_rings(self):
        # Four pupils each want the next one's school: the only ring has all of them.
        book = (((1, 0), (2, 1), (3, 2), (0, 3)), ((0, 3), (1, 0), (2, 1), (3, 2)), (1, 1, 1, 1))
        low = truth.bottom(book)
        self.same(low, ((0, 0), (1, 1), (2, 2), (3, 3)))
        self.same(rise_ring(book, low, (2, 3)), ((2, 3), (3, 0), (0, 1), (1, 2)))
        high = truth.top(book)
        self.same(fall_ring(book, high, (0, 0)), ((0, 0), (3, 3), (2, 2), (1, 1)))
        self.same([rise_ring(book, low, (0, 0)), fall_ring(book, high, (0, 1))], [None, None])
        self.same([fall_ring(book, low, (0, 1)), rise_ring(book, high, (0, 0))], [None, None])

    def test_schools_that_are_not_full(self):
        # School 1 wants pupil 0, but it has a free seat.
        book = (((0, 1), (1, 0)), ((1, 0), (0, 1)), (1, 2))
        plain = truth.top(book)
        self.assertIn((0, 1), truth.falls(book, plain))
        self.same([fall_ring(book, plain, (0, 1)), fall_ring(book, plain, (1, 0))], [None, None])

    def test_large_books(self):
        for book in samples.large_books():
            every = range(12)
            for plain in (truth.asked_by_pupils(book, every)[0], truth.asked_by_schools(book, every)[0]):
                for call, pairs in ((rise_ring, rising(book, plain)), (fall_ring, falling(book, plain))):
                    for pair in truth.pairs(book)[::4]:
                        self.begun(call, book, plain, pairs, pair)
                ring = any_rise_ring(book, plain)
                if ring is not None:
                    self.ring_of(book, plain, rising(book, plain), ring)

    def test_nobody(self):
        for book in samples.EDGES[:4]:
            self.same(any_rise_ring(book, ()), None)
