"""Points 33 to 35: dealings against which no pair of a plain one claims, and their rings."""

from itertools import permutations
from random import Random

from idleclaims.errors import Claimed
from idleclaims.exchange import exchanged, first_claim, unclaimed_by
from idleclaims.exchangekinds import given_and_got, is_exchange
from idleclaims.exchangerings import led, rings_of
from tests import rings, samples, truth
from tests.support import Case, with_bools

# Two seats at each school: two pupils may leave each one at once.
CROSSED = (((0, 1), (1, 0), (0, 1), (1, 0)), ((1, 3, 0, 2), (0, 2, 1, 3)), (2, 2))


def risers(book, plain, dealing):
    return tuple(
        a for a, wish in enumerate(book[0]) if truth.likes(wish, truth.place(dealing, a), truth.place(plain, a))
    )


def fallers(book, plain, dealing):
    return risers(book, dealing, plain)


def counted(book, dealing, other, pupils):
    """For each school how many of the pupils it gives, how many it gets."""
    found = []
    for b in range(len(book[1])):
        here, there = set(truth.held(dealing, b)), set(truth.held(other, b))
        found.append((len((here - there).intersection(pupils)), len((there - here).intersection(pupils))))
    return tuple(found)


def exchange_by_words(book, plain, dealing):
    """The five conditions, one by one."""
    up, down = risers(book, plain, dealing), fallers(book, plain, dealing)
    up_schools = {truth.place(dealing, a) for a in up}
    down_schools = {truth.place(plain, a) for a in down}

    def full_and_even(b, pupils):
        gives, gets = counted(book, plain, dealing, pupils)[b]
        return truth.is_full(book, plain, b) and truth.is_full(book, dealing, b) and gives == gets

    def likes_all(b):
        left = [a for a in down if truth.place(plain, a) == b]
        return all(truth.likes(book[1][b], c, a) for c in truth.held(dealing, b) for a in left)

    return (
        all(truth.place(plain, a) is not None for a in up),
        all(full_and_even(b, up) for b in up_schools),
        all(truth.place(dealing, a) is not None for a in down),
        all(full_and_even(b, down) and likes_all(b) for b in down_schools),
        not up_schools.intersection(down_schools),
    )


def all_three(books):
    for book in books:
        for plain in truth.plains(book):
            for dealing in truth.dealings(book):
                yield book, plain, dealing


class ExchangeTest(Case):
    def test_example(self):
        self.refuses(Claimed, {"pair": (1, 1)}, exchanged, samples.FOUR, samples.STILL, ((0, 0),))

    def test_claims(self):
        for book, plain, dealing in all_three(samples.small_books()[::4] + samples.tiny_books()[::9]):
            claims = [pair for pair in truth.claims(book, dealing) if pair in plain]
            self.same(unclaimed_by(book, plain, dealing), not claims)
            self.same(first_claim(book, plain, dealing), claims[0] if claims else None)
            if claims:
                self.refuses(Claimed, {"pair": claims[0]}, exchanged, book, plain, dealing)
            else:
                expected = (risers(book, plain, dealing), fallers(book, plain, dealing))
                self.same(exchanged(book, plain, dealing), expected)

    def test_claiming_pairs_of_no_plain_dealing_do_not_count(self):
        four = samples.FOUR
        self.same(truth.claims(four, samples.BEST), ((3, 0),))
        self.same(first_claim(four, samples.STILL, samples.BEST), None)
        self.same(unclaimed_by(four, plain=samples.STILL, dealing=samples.BEST), True)
        self.same(exchanged(four, samples.STILL, samples.BEST), ((0, 1), ()))
        self.same(exchanged(four, samples.STILL, samples.STILL), ((), ()))
        self.same(exchanged(samples.TWO, samples.ABOVE, samples.BELOW), ((), (0, 2)))


class ExchangeKindsTest(Case):
    def test_example(self):
        two, above, below = samples.TWO, samples.ABOVE, samples.BELOW
        result = [given_and_got(two, above, below, (0,)), is_exchange(two, above, below)]
        self.same(result, [((0, 1), (1, 0)), (True, True, True, True, True)])
        self.same(is_exchange(samples.FOUR, samples.STILL, ((0, 0),)), (True, True, False, False, True))

    def test_five_conditions(self):
        """Also G4: no pair of plain claims exactly if all five hold."""
        for book, plain, dealing in all_three(samples.small_books()[::3] + samples.tiny_books()[::9]):
            result = is_exchange(book, plain, dealing)
            self.same(result, exchange_by_words(book, plain, dealing), (book, plain, dealing))
            self.same(result == (True,) * 5, not set(plain).intersection(truth.claims(book, dealing)))

    def broken(self, book, plain, dealing, expected):
        self.same(truth.claims(book, plain), ())
        self.same(exchange_by_words(book, plain, dealing), expected)
        self.same(is_exchange(book=book, plain=plain, dealing=dealing), expected)

    def test_each_condition(self):
        # The fourth alone, the third with it, the fifth with it; a riser's school that is not even makes a faller.
        book = (((), (1, 0)), ((1,), (1,)), (1, 1))
        self.broken(book, ((1, 1),), ((1, 0),), (True, True, True, False, True))
        book = (((0,),), ((0,),), (1,))
        self.broken(book, ((0, 0),), (), (True, True, False, False, True))
        wishes, rolls = ((1, 2, 0), (0, 2, 1), (1, 0, 2), (0, 2, 1)), ((2, 3, 0, 1), (1, 2, 0, 3), (0, 1, 3, 2))
        plain, dealing = ((0, 2), (1, 1), (2, 0), (3, 0)), ((0, 0), (1, 0), (2, 1), (3, 2))
        self.broken((wishes, rolls, (2, 1, 1)), plain, dealing, (True, True, True, False, False))
        book = (((1, 2), (1, 0)), ((1,), (1, 0), (0,)), (1, 1, 1))
        self.broken(book, ((0, 2), (1, 1)), ((0, 1), (1, 0)), (True, False, True, False, False))
        plain, dealing = ((0, 0),), ((0, 1), (1, 0))
        self.broken(samples.NARROW, plain, dealing, (False, False, True, False, False))

    def test_schools_that_are_not_full(self):
        # School 0 gets a riser and gives one, but pupil 1 falls from it to no place: it is not full any more.
        expected = (True, False, False, False, False)
        self.broken(samples.TWO, samples.BELOW, ((0, 1), (2, 0)), expected)
        # The schools exchange pupils that they like more, but school 1 has a second seat.
        book = (((0, 1), (1, 0)), ((1, 0), (0, 1)), (1, 2))
        self.broken(book, ((0, 0), (1, 1)), ((0, 1), (1, 0)), (True, True, True, False, True))
        self.broken(book[:2] + ((1, 1),), ((0, 0), (1, 1)), ((0, 1), (1, 0)), (True,) * 5)

    def test_schools_that_like_them_less(self):
        # All is full and even, but no school likes the pupil that it gets more than the one that it gives.
        book = (((0, 1), (1, 0)), ((0, 1), (1, 0)), (1, 1))
        self.broken(book, ((0, 0), (1, 1)), ((0, 1), (1, 0)), (True, True, True, False, True))
        # Each likes it more, but school 0 does not like pupil 2, which stays, more than pupil 0.
        book = (((0, 1), (1, 0), (0,)), ((1, 0, 2), (0, 1)), (2, 1))
        plain, dealing = ((0, 0), (1, 1), (2, 0)), ((0, 1), (1, 0), (2, 0))
        self.broken(book, plain, dealing, (True, True, True, False, True))
        book = (book[0], ((1, 2, 0), (0, 1)), (2, 1))
        self.broken(book, plain, dealing, (True,) * 5)

    def test_given_and_got(self):
        random = Random(45)
        for book in samples.small_books()[::2]:
            for _ in range(6):
                one, two = random.choice(truth.dealings(book)), random.choice(truth.dealings(book))
                pupils = tuple(a for a in range(len(book[0])) if random.random() < 0.7)
                self.same(given_and_got(book, one, two, pupils), counted(book, one, two, pupils))
                every = tuple(range(len(book[0])))
                self.same(given_and_got(book, dealing=one, other=two, pupils=every), counted(book, one, two, every))
                self.same(given_and_got(book, one, one, every), ((0, 0),) * len(book[1]))
                self.same(given_and_got(book, one, two, ()), ((0, 0),) * len(book[1]))

    def test_large_books(self):
        for book in samples.large_books():
            high = truth.asked_by_pupils(book, range(12))[0]
            low = truth.asked_by_schools(book, range(12))[0]
            for one, two in ((high, low), (low, high), (high, high)):
                self.same(is_exchange(book, one, two), (True,) * 5)
                self.same(unclaimed_by(book, one, two), True)


class ExchangeRingsTest(Case):
    def ring_tuple(self, book, plain, dealing, found):
        """Are these rings at plain that together have what plain lacks?"""
        self.assertIs(type(found), tuple)
        self.assertTrue(all(rings.is_ring(book, plain, ring) for ring in found), found)
        pairs = [pair for ring in found for pair in ring]
        self.same(sorted(pairs), [pair for pair in dealing if pair not in plain])
        self.assertEqual(len({a for a, _ in pairs}), len(pairs))

    def test_led_example(self):
        result = led(samples.FOUR, samples.STILL, ((1, 0), (0, 1)))
        self.same(result, ((0, 1), (1, 0), (2, 2), (3, 3)))

    def test_rings_of(self):
        several = 0
        for book, plain, dealing in all_three(samples.small_books() + (CROSSED,)):
            if set(plain).intersection(truth.claims(book, dealing)):
                continue
            found = rings_of(book, plain, dealing)
            self.ring_tuple(book, plain, dealing, found)
            up, down = risers(book, plain, dealing), fallers(book, plain, dealing)
            several += len(found) > 1
            for ring in found:
                pupils = {a for a, _ in ring}
                self.assertTrue(pupils <= set(up) or pupils <= set(down))
            for sequence in list(permutations(found))[:6]:
                here = plain
                for ring in sequence:
                    there = led(book, here, ring)
                    self.same(there, rings.led(here, ring))
                    here = there
                self.same(here, dealing)
        self.assertGreater(several, 5)

    def test_claimed(self):
        for book, plain, dealing in all_three(samples.small_books()[::20]):
            claims = [pair for pair in truth.claims(book, dealing) if pair in plain]
            if claims:
                self.refuses(Claimed, {"pair": claims[0]}, rings_of, book, plain, dealing)
        self.same(rings_of(samples.FOUR, samples.STILL, samples.STILL), ())
        self.same(rings_of(samples.NOBODY, (), ()), ())

    def test_a_school_several_times(self):
        # Pupils 0 and 2 leave school 0 for school 1, pupils 1 and 3 the other way.
        plain, dealing = ((0, 0), (1, 1), (2, 0), (3, 1)), ((0, 1), (1, 0), (2, 1), (3, 0))
        self.same([truth.top(CROSSED), truth.bottom(CROSSED)], [plain, dealing])
        ring = ((0, 1), (1, 0), (2, 1), (3, 0))
        self.same(rings.is_ring(CROSSED, plain, ring), True)
        self.same(led(CROSSED, plain, ring), dealing)
        self.same(led(CROSSED, plain, ring[2:] + ring[:2]), dealing)
        self.same(led(CROSSED, plain, ((0, 1), (3, 0))), ((0, 1), (1, 1), (2, 0), (3, 0)))
        self.ring_tuple(CROSSED, plain, dealing, rings_of(CROSSED, plain, dealing))
        # The same pupil twice is no ring, although its schools close.
        self.not_usable("ring", led, CROSSED, plain, ((0, 1), (1, 0), (0, 1), (3, 0)))

    def test_large_books(self):
        for book in samples.large_books():
            high = truth.asked_by_pupils(book, range(12))[0]
            low = truth.asked_by_schools(book, range(12))[0]
            for one, two in ((high, low), (low, high), (high, high)):
                self.ring_tuple(book, one, two, rings_of(book, one, two))

    def test_led(self):
        random = Random(46)
        fine = 0
        for book in samples.small_books():
            if not truth.pairs(book):
                continue
            for _ in range(20):
                dealing = random.choice(truth.dealings(book))
                ring = tuple(random.sample(truth.pairs(book), min(len(truth.pairs(book)), random.randint(1, 3))))
                if rings.is_ring(book, dealing, ring):
                    fine += 1
                    self.same(led(book, dealing, ring), rings.led(dealing, ring))
                else:
                    self.not_usable("ring", led, book, dealing, ring)
        self.assertGreater(fine, 15)

    def test_no_rings(self):
        ring = ((1, 0), (0, 1))
        wrong = [None, 0, True, "", "01", (), [], list(ring), ring[:1], ring[::-1] + ring, (ring,), ((1, 0), None)]
        wrong += [((1, 0), [0, 1]), (0, 1), ((1, 0), (0, 2)), ((1, 1), (0, 0)), ((0, 0),), ((1, 0), (1, 0))]
        wrong += [with_bools(ring), ((1, 0), (0, 1), (1, 0), (0, 1)), ((9, 9), (0, 1)), ((3, 0), (0, 3)), ((2, 2),)]
        for thing in wrong:
            self.same(rings.is_ring(samples.FOUR, samples.STILL, thing), False)
            self.not_usable("ring", led, samples.FOUR, samples.STILL, thing)
        self.same(led(samples.FOUR, dealing=samples.STILL, ring=ring[::-1]), samples.BEST)
        # A pupil without a place is on no ring.
        self.not_usable("ring", led, samples.FOUR, samples.STILL[1:], ring)
