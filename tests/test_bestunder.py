"""Point 64: the best dealing under a waiver."""

from itertools import combinations
from random import Random

from idleclaims.bestunder import best_under, kept_by, place_under
from idleclaims.errors import NotIdle
from tests import samples, truth
from tests.support import Case


def waivers(book, random, many=4):
    """Some sets of idle pairs, among them none and all."""
    idle = truth.idle_pairs(book)
    found = {(), idle, idle[:1], idle[1:]}
    while len(found) < min(many + 3, 2 ** len(idle)):
        found.add(tuple(pair for pair in idle if random.random() < 0.5))
    return sorted(found)


def subsets(values):
    return [some for length in range(len(values) + 1) for some in combinations(values, length)]


class BestUnderTest(Case):
    def test_example(self):
        four = samples.FOUR
        self.same([place_under(four, ((3, 0),), 0), kept_by(four, (), (0, 3))], [1, (3,)])

    def test_best_of_the_allowed_dealings(self):
        random = Random(12)
        for book in samples.small_books():
            for waived in waivers(book, random, 1):
                allowed = [m for m in truth.dealings(book) if set(truth.claims(book, m)) <= set(waived)]
                result = best_under(book, waived)
                self.assertIn(result, allowed)
                for dealing in allowed:
                    self.same(truth.gainers(book, result, dealing), ())
                for pupil in range(len(book[0])):
                    self.same(place_under(book, waived, pupil), truth.place(result, pupil))

    def test_all_waived_and_none(self):
        for book in samples.small_books() + samples.tiny_books():
            self.same(best_under(book, ()), truth.top(book))
            self.same(best_under(book, truth.idle_pairs(book)), truth.best(book))

    def test_kept_by(self):
        random = Random(13)
        for book in samples.small_books()[::3]:
            idle = truth.idle_pairs(book)
            for waived in waivers(book, random, 1):
                before = truth.top(truth.struck(book, waived))
                for pupils in subsets(range(len(book[0])))[::3]:
                    wider = [pair for pair in idle if pair in waived or pair[0] in pupils]
                    behind = truth.top(truth.struck(book, wider))
                    kept = tuple(a for a in pupils if truth.place(before, a) == truth.place(behind, a))
                    self.same(kept_by(book, waived, pupils), kept, (book, waived, pupils))
                    # Some pupil that waives gains nothing by it.
                    self.assertEqual(kept == (), pupils == ())

    def test_who_waives_for_others(self):
        # Pupil 3 waives for pupils 0 and 1, and keeps its place.
        self.same(best_under(samples.FOUR, ((3, 0),)), samples.BEST)
        self.same(kept_by(samples.FOUR, (), (3,)), (3,))
        self.same(kept_by(samples.FOUR, (), (0, 1, 2, 3)), (2, 3))
        self.same(kept_by(samples.FOUR, ((3, 0),), (0, 1, 2, 3)), (0, 1, 2, 3))
        self.same(kept_by(samples.FOUR, (), (0, 1)), (0, 1))

    def test_rightful_pairs_cannot_be_waived(self):
        for book in samples.small_books():
            rightful, pairs = truth.rightful_pairs(book), truth.pairs(book)
            for waived in {pairs, pairs[1:], pairs[::2], rightful, rightful[:1]}:
                wrong = [pair for pair in waived if pair in rightful]
                if wrong:
                    self.refuses(NotIdle, {"pair": wrong[0]}, best_under, book, waived)
                    self.refuses(NotIdle, {"pair": wrong[0]}, place_under, book, waived, None)
                    self.refuses(NotIdle, {"pair": wrong[0]}, kept_by, book, waived, None)

    def test_large_books(self):
        for book in samples.large_books():
            every = tuple(range(12))
            self.same(best_under(book, ()), truth.asked_by_pupils(book, every)[0])
            idle = tuple(pair for row in (struck_rows(book),) for pair in row)
            left = truth.struck(book, idle)
            self.same(best_under(book, idle), truth.asked_by_pupils(left, every)[0])
            some = idle[::2]
            self.same(best_under(book, some), truth.asked_by_pupils(truth.struck(book, some), every)[0])
            for pupil in every:
                place = truth.place(truth.asked_by_pupils(left, every)[0], pupil)
                self.same(place_under(book, idle, pupil), place)
            self.assertNotEqual(kept_by(book, (), every), ())

    def test_nobody(self):
        for book in samples.EDGES[:4]:
            self.same(best_under(book, ()), ())
            self.same(kept_by(book, (), tuple(range(len(book[0])))), tuple(range(len(book[0]))))
            for pupil in range(len(book[0])):
                self.same(place_under(book, (), pupil), None)


def struck_rows(book):
    """The idle pairs of a book of any size, ascending, struck as long as a reason strikes some."""
    left, gone = book, []
    while True:
        high, refused = truth.asked_by_pupils(left, range(len(left[0])))
        low, refusing = truth.asked_by_schools(left, range(len(left[1])))
        many = len(left[1])
        rising = truth.told_heights(many, truth.rise_arrows(left, high))
        falling = truth.told_heights(many, truth.fall_arrows(left, low))
        told = set(truth.struck_pairs(left, high, "up", rising) + truth.struck_pairs(left, low, "down", falling))
        told.update(truth.struck_pairs(left, low, "rank", truth.told_ranks(left, low)))
        here = high
        while True:
            told.update(truth.struck_pairs(left, here, "cold", ()))
            turnings = truth.turnings(left, here)
            if not turnings:
                break
            here = truth.turned(left, here, turnings[0])
        if not told:
            assert not refused and not refusing
            return tuple(sorted(gone))
        gone += told
        left = truth.struck(left, told)
