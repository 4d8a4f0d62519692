"""Point 41, second row: plain dealings that claim, and dealings against which none claims."""

from idleclaims.errors import Crowded
from idleclaims.unclaimed import at_once, open_with
from tests import samples, truth
from tests.support import Case


class UnclaimedTest(Case):
    def test_example(self):
        four = samples.FOUR
        self.same(open_with(four, (2, 0)), samples.SWAP)
        self.same([at_once(four, samples.BEST), open_with(four, (3, 0))], [None, None])

    def claims_at_once(self, book, dealing):
        found = at_once(book, dealing)
        claims = set(truth.claims(book, dealing))
        if any(claims.intersection(plain) for plain in truth.plains(book)):
            self.assertIn(found, truth.plains(book))
            self.assertTrue(claims.intersection(found))
        else:
            self.same(found, None)
        return found

    def test_at_once(self):
        found = {True: 0, False: 0}
        for book in samples.small_books()[::2] + samples.tiny_books()[::9]:
            for dealing in truth.dealings(book):
                found[self.claims_at_once(book, dealing) is None] += 1
        self.assertTrue(found[True] > 50 and found[False] > 50, found)

    def test_a_plain_dealing_further_down(self):
        # Only at a plain dealing behind the pupils' one there is a pair that claims.
        found = 0
        for book in samples.small_books() + (samples.TWICE,):
            for dealing in truth.dealings(book):
                claims = set(truth.claims(book, dealing))
                if not claims.intersection(truth.top(book)) and any(claims.intersection(m) for m in truth.plains(book)):
                    self.claims_at_once(book, dealing)
                    found += 1
        self.assertGreater(found, 20)

    def test_open_with(self):
        found = {}
        books = [book for book in samples.small_books() + samples.tiny_books() if max(book[2], default=1) == 1]
        for book in books:
            plain_pairs = {pair for plain in truth.plains(book) for pair in plain}
            for pair in truth.pairs(book):
                dealing = open_with(book, pair)
                self.same(dealing is None, pair in truth.loose(book))
                key = truth.kind(book, pair), dealing is None
                found[key] = found.get(key, 0) + 1
                if dealing is not None:
                    self.assertIn(dealing, truth.dealings(book))
                    self.assertIn(pair, dealing)
                    self.same(plain_pairs.intersection(truth.claims(book, dealing)), set())
        for key in (("plain", False), ("rise", False), ("rise", True), ("fall", False), ("fall", True), ("cold", True)):
            self.assertGreater(found[key], 5, key)
        self.assertEqual(len(found), 6)

    def test_one_seat_each(self):
        self.refuses(Crowded, {"school": 0}, open_with, samples.TWO, None)
        self.refuses(Crowded, {"school": 1}, open_with, (((0, 1),), ((0,), (0,)), (1, 10 ** 29)), (0, 0))
        # at_once is for any seats.
        self.claims_at_once(samples.TWO, ())
        self.claims_at_once(samples.WIDE, ())

    def test_large_books(self):
        for book in samples.large_books():
            every = range(12)
            high, low = truth.asked_by_pupils(book, every)[0], truth.asked_by_schools(book, every)[0]
            self.same([at_once(book, high), at_once(book, low)], [None, None])
            found = at_once(book, ())
            self.same(truth.claims(book, found), ())
            if max(book[2]) == 1:
                for pair in truth.pairs(book)[::3]:
                    dealing = open_with(book, pair)
                    if dealing is not None:
                        self.assertIn(pair, dealing)
                        self.assertTrue(truth.is_dealing(book, dealing))
                        self.same(at_once(book, dealing), None)

    def test_nobody(self):
        for book in samples.EDGES[:4]:
            self.same(at_once(book, ()), None)
