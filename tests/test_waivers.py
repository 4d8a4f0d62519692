"""Points 63 and 65: waivers, and the hearing under them."""

from random import Random

from idleclaims.errors import NotIdle
from idleclaims.waivehearing import can_name, wins_under
from idleclaims.waivers import all_idle_of, claims_left, is_allowed, is_waiver, least_waiver
from tests import samples, truth, turnbooks
from tests.support import Case, mutations, no_sets_of_pairs
from tests.test_bestunder import struck_rows, subsets, waivers

FOUR, STILL, BEST, SWAP = samples.FOUR, samples.STILL, samples.BEST, samples.SWAP


class WaiversTest(Case):
    def test_example(self):
        self.same(claims_left(FOUR, (), BEST), ((3, 0),))
        self.refuses(NotIdle, {"pair": (2, 2)}, claims_left, FOUR, ((2, 0), (2, 2)), None)

    def test_is_waiver(self):
        for book in samples.small_books() + samples.tiny_books()[::3]:
            idle = truth.idle_pairs(book)
            for pair in truth.pairs(book):
                self.same(is_waiver(book, (pair,)), pair in idle)
                self.same(is_waiver(book, tuple(sorted({*idle, pair}))), pair in idle)
            for some in ((), idle, idle[1:], idle[:1]):
                self.same(is_waiver(book, some), True)
                self.same(is_waiver(book, list(some)), False)
            self.same(is_waiver(book, idle[::-1]), len(idle) < 2)
            self.same(is_waiver(book=book, thing=truth.pairs(book)), idle == truth.pairs(book))
        for thing in no_sets_of_pairs(FOUR):
            self.same(is_waiver(FOUR, thing), False)
        for thing in (((3, False),), (((3, 0),),), ((3, 0), (3, 0)), ((3, 0), (2, 0)), ((2, 0), (2, 2)), (3, 0)):
            self.same(is_waiver(FOUR, thing), False)

    def test_waivers_changed_by_chance(self):
        random = Random(65)
        found = {True: 0, False: 0}
        for book in [b for b in samples.small_books() if 1 <= len(truth.idle_pairs(b)) <= 5]:
            fine = [repr(some) for some in subsets(truth.idle_pairs(book))]
            for thing in mutations(truth.idle_pairs(book), random, 8):
                self.same(is_waiver(book, thing), repr(thing) in fine)
                found[repr(thing) in fine] += 1
        self.assertGreater(min(found.values()), 9)

    def test_all_idle_of(self):
        for book in turnbooks.books():
            for pupil in range(len(book[0])):
                expected = tuple(pair for pair in turnbooks.idle_pairs(book) if pair[0] == pupil)
                self.same(all_idle_of(book, pupil), expected)
        self.same([all_idle_of(FOUR, 3), all_idle_of(FOUR, pupil=1)], [((3, 0),), ()])

    def test_claims_left(self):
        random = Random(66)
        for book in samples.small_books():
            for waived in waivers(book, random, 1):
                for dealing in random.sample(truth.dealings(book), min(4, len(truth.dealings(book)))):
                    self.left(book, waived, dealing)
                for dealing in truth.rightfuls(book):
                    self.left(book, waived, dealing)

    def left(self, book, waived, dealing):
        left = tuple(pair for pair in truth.claims(book, dealing) if pair not in waived)
        self.same(claims_left(book, waived, dealing), left)
        self.same(is_allowed(book, waived, dealing), left == ())

    def test_least_waiver(self):
        random = Random(67)
        for book in samples.small_books() + samples.tiny_books()[::5]:
            for dealing in truth.dealings(book)[::7] + truth.rightfuls(book):
                if dealing not in truth.rightfuls(book):
                    self.not_usable("dealing", least_waiver, book, dealing)
                    continue
                least = least_waiver(book, dealing)
                self.same(least, truth.claims(book, dealing))
                self.same(is_waiver(book, least), True)
                for waived in waivers(book, random, 1):
                    self.same(is_allowed(book, waived, dealing), set(least) <= set(waived))

    def test_allowed_exactly_if_rightful_and_waived(self):
        """Also G8: the allowed dealings are those that are plain without the waived pairs."""
        for book in [b for b in samples.small_books() if 1 <= len(truth.idle_pairs(b)) <= 3][:40]:
            for waived in subsets(truth.idle_pairs(book)):
                plain = truth.plains(truth.struck(book, waived))
                for dealing in truth.dealings(book):
                    self.same(is_allowed(book, waived, dealing), dealing in plain)

    def test_large_books(self):
        for book in samples.large_books() + turnbooks.TURNING:
            idle = struck_rows(book)
            every = tuple(range(len(book[0])))
            best = truth.asked_by_pupils(truth.struck(book, idle), every)[0]
            self.same([is_waiver(book, idle), is_allowed(book, idle, best)], [True, True])
            self.same(least_waiver(book, best), truth.claims(book, best))
            self.same(claims_left(book, idle[1:], best), tuple(p for p in truth.claims(book, best) if p == idle[0]))
            self.same([pair for pupil in every for pair in all_idle_of(book, pupil)], list(idle))

    def test_nobody(self):
        for book in samples.EDGES[:4]:
            self.same([is_waiver(book, ()), claims_left(book, (), ()), is_allowed(book, (), ())], [True, (), True])
            self.same([least_waiver(book, ()), is_waiver(book, ((0, 0),))], [(), False])
            for pupil in range(len(book[0])):
                self.same(all_idle_of(book, pupil), ())


class WaiveHearingTest(Case):
    def test_example(self):
        book = (((0,), (0,)), ((0, 1),), (1,))
        self.same(wins_under(book, ((1, 0),)), ((False, 0), (True, 1), (True, 1)))

    def test_can_name(self):
        random = Random(68)
        found = {True: 0, False: 0}
        for book in samples.small_books():
            for waived in waivers(book, random, 1):
                for _ in range(6):
                    one, two = random.choice(truth.dealings(book)), random.choice(truth.dealings(book))
                    fine = any(pair in truth.claims(book, one) and pair not in waived for pair in two)
                    self.same(can_name(book, waived, one, two), fine)
                    found[fine] += 1
        self.assertGreater(min(found.values()), 99)
        self.same([can_name(FOUR, (), BEST, ((3, 0),)), can_name(FOUR, ((3, 0),), BEST, ((3, 0),))], [True, False])
        self.same(can_name(book=FOUR, waived=((2, 0), (3, 0)), dealing=SWAP, other=BEST), True)
        self.same([can_name(FOUR, (), BEST, ()), can_name(FOUR, (), BEST, BEST)], [False, False])

    def expected(self, book, waived):
        told = truth.hearing(book, waived)
        return tuple(told[dealing] for dealing in truth.dealings(book))

    def test_wins_under_no_waiver_some_and_all(self):
        random = Random(69)
        for book in samples.small_books() + samples.tiny_books()[::4]:
            for waived in waivers(book, random, 1):
                self.same(wins_under(book, waived), self.expected(book, waived), (book, waived))

    def test_long_hearings(self):
        for book in (samples.tower(1), samples.tower(2), samples.beside(samples.FOUR, samples.ODD)):
            self.same(wins_under(book, ()), self.expected(book, ()))
            idle = truth.idle_pairs(book)
            for waived in (idle, idle[::2], idle[:1]):
                self.same(wins_under(book=book, waived=waived), self.expected(book, waived))
        self.same(max(moves for _, moves in wins_under(samples.tower(2), ())), 4)

    def test_more_waived(self):
        """The same are won, in no more moves."""
        random = Random(70)
        for book in samples.small_books()[::2]:
            before = wins_under(book, ())
            for waived in waivers(book, random, 1):
                now = wins_under(book, waived)
                for (won, moves), (then, many) in zip(now, before):
                    self.same(won, then)
                    self.assertLessEqual(moves, many)
                more = tuple(pair for pair in truth.idle_pairs(book) if pair in waived or random.random() < 0.5)
                for (_, moves), (_, many) in zip(wins_under(book, more), now):
                    self.assertLessEqual(moves, many)

    def test_rightful_dealings_are_lost(self):
        for book in samples.small_books()[::3]:
            for dealing, (won, _) in zip(truth.dealings(book), wins_under(book, truth.idle_pairs(book))):
                self.same(won, dealing not in truth.rightfuls(book))

    def test_nobody(self):
        for book in samples.EDGES[:4]:
            self.same([wins_under(book, ()), can_name(book, (), (), ())], [((False, 0),), False])
