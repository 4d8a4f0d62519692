"""Point 55: rightful dealings made of rightful dealings."""

from random import Random

from idleclaims.best import best_deal, worst_deal
from idleclaims.joining import down_from, rightful_better, rightful_worse, turnings_down
from tests import samples, truth
from tests.support import Case, no_dealings
from tests.test_between import joined


class JoiningTest(Case):
    def test_example(self):
        self.same(down_from(samples.FOUR, samples.BEST), (samples.BEST, samples.STILL))

    def test_better_and_worse(self):
        several = 0
        for book in samples.small_books() + samples.tiny_books()[::2]:
            for one in truth.rightfuls(book):
                for two in truth.rightfuls(book):
                    better, worse = joined(book, one, two)
                    self.same(rightful_better(book, one, two), better)
                    self.same(rightful_worse(book, dealing=one, other=two), worse)
                    self.assertIn(better, truth.rightfuls(book))
                    self.assertIn(worse, truth.rightfuls(book))
                    several += len({one, two, better, worse}) == 4
        self.assertGreater(several, 5)

    def test_turnings_down(self):
        found = 0
        for book in samples.small_books() + samples.tiny_books()[::3]:
            left = truth.ladder(book)[-1]
            for dealing in truth.rightfuls(book):
                turnings = truth.turnings(left, dealing)
                self.same(turnings_down(book, dealing), turnings)
                found += turnings != truth.turnings(book, dealing) if dealing in truth.plains(book) else 0
                walk = [dealing]
                while truth.turnings(left, walk[-1]):
                    walk.append(truth.turned(left, walk[-1], truth.turnings(left, walk[-1])[0]))
                self.same(down_from(book, dealing), tuple(walk))
                self.same(walk[-1], truth.worst_rightful(book))
                for here, there in zip(walk, walk[1:]):
                    self.assertIn(there, truth.rightfuls(book))
                    self.same(truth.gainers(book, here, there), ())
        self.assertGreater(found, 0)

    def test_what_must_be_rightful(self):
        random = Random(55)
        for book in samples.small_books()[::4]:
            right = truth.rightfuls(book)[0]
            wrong = [m for m in truth.dealings(book) if m not in truth.rightfuls(book)]
            for dealing in random.sample(wrong, min(3, len(wrong))):
                for call in (rightful_better, rightful_worse):
                    self.not_usable("dealing", call, book, dealing, None)
                    self.not_usable("dealing", call, book, dealing, right)
                    self.not_usable("other", call, book, right, dealing)
                self.not_usable("dealing", turnings_down, book, dealing)
                self.not_usable("dealing", down_from, book, dealing)
        for thing in no_dealings(samples.FOUR) + [samples.SWAP, ()]:
            self.not_usable("other", rightful_better, samples.FOUR, samples.BEST, thing)
            self.not_usable("other", rightful_worse, samples.FOUR, samples.BEST, thing)

    def test_large_books(self):
        for book in samples.large_books():
            best, worst = best_deal(book), worst_deal(book)
            down = down_from(book, best)
            self.same(down[-1], worst)
            for here, there in zip(down, down[1:]):
                self.same(truth.gainers(book, here, there), ())
                self.same([rightful_better(book, there, here), rightful_worse(book, here, there)], [here, there])
            self.same(down_from(book, worst), (worst,))
            self.same(turnings_down(book, worst), ())
        self.same(turnings_down(samples.large_books()[1], best_deal(samples.large_books()[1])), tuple(
            (2 * k, 2 * k + 1) for k in range(6)
        ))

    def test_nobody(self):
        for book in samples.EDGES[:4]:
            self.same([rightful_better(book, (), ()), rightful_worse(book, (), ())], [(), ()])
            self.same([turnings_down(book, ()), down_from(book, ())], [(), ((),)])
