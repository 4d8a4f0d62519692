"""Points 68 to 70: demands, prices and blocks, held against all rightful dealings."""

from random import Random

from idleclaims.bestunder import best_under
from idleclaims.blocks import blocks_of, is_block
from idleclaims.demands import broken_by, can_meet, meets
from idleclaims.errors import NotIdle
from idleclaims.prices import cheapest_deal, is_prices, least_price, price_list, price_of
from idleclaims.turns import dealing_by
from tests import samples, truth, turnbooks
from tests.offices import ByAsking
from tests.support import Case
from tests.test_bestunder import struck_rows, subsets

LINK = samples.LINK
BOTH = ((0, 2), (4, 0))
MID = ((0, 0), (1, 1), (2, 3), (3, 2), (4, 4))


class DemandsTest(Case):
    def test_example(self):
        self.same(broken_by(LINK, ((2, 3),)), (1,))

    def test_meets(self):
        random = Random(71)
        found = {True: 0, False: 0}
        for book in samples.small_books():
            for _ in range(3):
                demands = turnbooks.some_demands(book, random)
                for dealing in truth.dealings(book)[::9] + truth.rightfuls(book):
                    fine = turnbooks.meets(book, demands, dealing)
                    self.same(meets(book, demands, dealing), fine)
                    found[fine] += 1
        self.assertGreater(min(found.values()), 99)

    def test_what_meets(self):
        four, best, still = samples.FOUR, samples.BEST, samples.STILL
        self.same([meets(four, ((0, 0),), best), meets(four, ((0, 1),), still)], [True, False])
        self.same([meets(four, ((0, 1),), best), meets(four, (), ()), meets(four, ((0, 0),), ())], [True, True, False])
        # Several demands of one pupil: all of them.
        self.same(meets(four, ((0, 0), (0, 1), (0, 2)), best), True)
        self.same(meets(four, ((0, 0), (0, 1)), still), False)
        self.same(meets(book=four, demands=((0, 0), (0, 2)), dealing=((0, 0),)), False)
        # The last school of the list, but no place.
        self.same(meets(four, ((3, 3),), ((0, 0),)), False)

    def test_can_meet_and_broken_by(self):
        random = Random(72)
        found = {True: 0, False: 0}
        broken = 0
        for book in turnbooks.books():
            for _ in range(4):
                demands = turnbooks.some_demands(book, random)
                fitting = turnbooks.fitting(book, demands)
                self.same(can_meet(book, demands), fitting != [])
                found[fitting != []] += 1
                done = turnbooks.done(book)
                expected = tuple(k for k in range(len(done)) if not done[k].intersection(fitting))
                self.same(broken_by(book, demands), expected)
                broken += 0 < len(expected) < len(done)
        self.assertGreater(min(found.values()), 30)
        self.assertGreater(broken, 20)

    def test_demands_that_nothing_meets(self):
        self.same([can_meet(LINK, ((0, 2),)), can_meet(LINK, ((4, 0),))], [True, False])
        self.same([broken_by(LINK, ((4, 0),)), broken_by(LINK, ()), broken_by(LINK, ((0, 2),))], [(0, 1), (), (0,)])
        # A pupil without a place.
        self.same([can_meet(samples.NARROW, ((1, 0),)), can_meet(samples.NARROW, ((0, 1),))], [False, True])
        for book in samples.EDGES[:4]:
            self.same([can_meet(book, ()), meets(book, (), ()), broken_by(book, ())], [True, True, ()])


class PricesTest(Case):
    def test_examples(self):
        self.same(cheapest_deal(LINK, (3, 5), ((2, 3),)), MID)
        self.same(price_list(LINK, (3, 5), 2), ((3, 3), (2, 0)))

    def test_is_prices(self):
        for book in turnbooks.books():
            many = len(turnbooks.idle_pairs(book))
            for thing in ((), (0,), (1,) * many, (0,) * (many + 1), (10 ** 59,) * many, tuple(range(many))):
                self.same(is_prices(book, thing), len(thing) == many)
            self.same(is_prices(book, [1] * many), False)
        wrong = (None, 0, True, "", "35", [], [3, 5], (), (3,), (3, 5, 1), (3, -1), (3, None), (True, 5), (3, "5"))
        for thing in wrong + (((3, 5),), ((3,), 5), (3, False), (-1, 5), ((0, 2), (4, 0))):
            self.same(is_prices(LINK, thing), False)
        self.same([is_prices(LINK, (3, 5)), is_prices(book=samples.ODD, thing=())], [True, True])

    def test_price_of(self):
        random = Random(73)
        for book in turnbooks.books():
            prices = turnbooks.some_prices(book, random)
            for dealing in turnbooks.rightfuls(book):
                self.same(price_of(book, prices, dealing), turnbooks.price(book, prices, dealing))
        for dealing in truth.dealings(samples.FOUR):
            if dealing not in truth.rightfuls(samples.FOUR):
                self.not_usable("dealing", price_of, samples.FOUR, (1, 2, 3), dealing)

    def judged(self, book, prices, demands):
        """least_price, cheapest_deal and blocks_of, by going through all rightful dealings."""
        fitting = turnbooks.fitting(book, demands)
        if not fitting:
            self.same([least_price(book, prices, demands), cheapest_deal(book, prices, demands)], [None, None])
            self.not_usable("demands", blocks_of, book, prices, demands)
            return "none"
        costs = {m: turnbooks.price(book, prices, m) for m in fitting}
        least = min(costs.values())
        cheap = [m for m in fitting if costs[m] == least]
        self.same(least_price(book, prices, demands), least, (book, prices, demands))
        self.same(cheapest_deal(book, prices, demands), turnbooks.favourite(book, cheap), (book, prices, demands))
        self.blocks_judged(book, prices, fitting, least, blocks_of(book, prices, demands))
        if cheap == [turnbooks.favourite(book, fitting)]:
            return "first"
        return "several" if len(cheap) > 1 else "other"

    def blocks_judged(self, book, prices, fitting, least, blocks):
        """The three conditions of point 70."""
        idle = turnbooks.idle_pairs(book)
        self.assertIs(type(blocks), tuple)
        taken = dict.fromkeys(idle, 0)
        for row in blocks:
            self.assertEqual((type(row), len(row)), (tuple, 2))
            amount, block = row
            self.assertIs(type(amount), int)
            self.assertGreaterEqual(amount, 1)
            self.assertIs(type(block), tuple)
            self.same(list(block), sorted(set(block)))
            self.assertTrue(all(set(block).intersection(truth.claims(book, m)) for m in fitting))
            for pair in block:
                taken[pair] += amount
        self.same([pair for pair, price in zip(idle, prices) if taken[pair] > price], [])
        self.same(sum(amount for amount, _ in blocks), least)

    def test_by_chance(self):
        """Also G8: the least price is the greatest total of amounts on blocks."""
        random = Random(74)
        found = {}
        for book in turnbooks.books() + turnbooks.TURNING * 5:
            prices, demands = turnbooks.some_prices(book, random), turnbooks.some_demands(book, random)
            word = self.judged(book, prices, demands)
            found[word] = found.get(word, 0) + 1
        for word in ("none", "first", "several", "other"):
            self.assertGreater(found[word], 10, (word, found))

    def test_pairs_that_lead_on_to_several(self):
        random = Random(81)
        demands = ((8, 9),)
        self.same(least_price(turnbooks.WEB, (1,) * 7, demands), 2)
        for most in (1, 2, 3, 10 ** 59):
            for _ in range(25):
                self.judged(turnbooks.WEB, tuple(random.randint(0, most) for _ in range(7)), demands)

    def test_prices_of_nothing_and_large_ones(self):
        random = Random(75)
        for book in turnbooks.TURNING + (LINK, samples.FOUR):
            many = len(turnbooks.idle_pairs(book))
            for prices in ((0,) * many, (1,) * many, (10 ** 59 - 1,) * many):
                for demands in ((), turnbooks.rightfuls(book)[0], turnbooks.some_demands(book, random)):
                    self.judged(book, prices, demands)
            # Nothing is claimed for nothing: the best dealing is the cheapest one.
            best = turnbooks.favourite(book, turnbooks.rightfuls(book))
            self.same([least_price(book, (0,) * many, ()), cheapest_deal(book, (0,) * many, ())], [0, best])
            self.same(blocks_of(book, (0,) * many, ()), ())

    def test_less_is_never_dearer(self):
        """The least price does not fall if a demand is added or a price rises."""
        random = Random(76)
        for book in turnbooks.TURNING * 3:
            prices, demands = turnbooks.some_prices(book, random), turnbooks.some_demands(book, random)
            least = least_price(book, prices, demands)
            if least is not None:
                higher = tuple(price + random.choice((0, 0, 5)) for price in prices)
                self.assertGreaterEqual(least_price(book, higher, demands), least)
                more = tuple(sorted({*demands, random.choice(turnbooks.rightful_pairs(book))}))
                dearer = least_price(book, prices, more)
                self.assertTrue(dearer is None or dearer >= least)

    def test_pairs_to_be_waived(self):
        """Also G8: the least price is the least one of pairs under whose waiver the best dealing meets the demands."""
        random = Random(77)
        books = [book for book in samples.small_books() if 1 <= len(truth.idle_pairs(book)) <= 4]
        for book in books[:40] + [LINK, samples.FOUR]:
            prices, demands = turnbooks.some_prices(book, random), turnbooks.some_demands(book, random)
            told = dict(zip(truth.idle_pairs(book), prices))
            sums = []
            for waived in subsets(truth.idle_pairs(book)):
                if turnbooks.meets(book, demands, best_under(book, waived)):
                    sums.append(sum(told[pair] for pair in waived))
            self.same(least_price(book, prices, demands), min(sums) if sums else None)

    def test_price_list(self):
        random = Random(78)
        for book in samples.small_books()[::4] + turnbooks.TURNING:
            prices = turnbooks.some_prices(book, random)
            for pupil, wish in enumerate(book[0]):
                expected = []
                for school in wish:
                    if (pupil, school) in turnbooks.rightful_pairs(book):
                        fitting = turnbooks.fitting(book, ((pupil, school),))
                        least = min(turnbooks.price(book, prices, m) for m in fitting)
                        expected.append((school, least))
                self.same(price_list(book, prices, pupil), tuple(expected))

    def test_large_books(self):
        random = Random(79)
        for book in samples.large_books():
            idle = struck_rows(book)
            prices = tuple(random.choice((0, 1, 7, 10 ** 59)) for _ in idle)
            told = dict(zip(idle, prices))
            best = dealing_by(book, ())
            costs = {m: sum(told[pair] for pair in truth.claims(book, m)) for m in ByAsking().rightfuls(book)}
            self.same(least_price(book, prices, ()), min(costs.values()))
            for demands in (best[:2], best[3:7:2], best):
                least = min(cost for m, cost in costs.items() if turnbooks.meets(book, demands, m))
                self.same(least_price(book, prices, demands), least)
                self.same(price_of(book, prices, cheapest_deal(book, prices, demands)), least)
                blocks = blocks_of(book, prices, demands)
                self.same(sum(amount for amount, _ in blocks), least)
                self.same(all(is_block(book, demands, block) for _, block in blocks), True)
            for pupil, _ in best:
                # The demand for its worst place is met by all.
                self.same(price_list(book, prices, pupil)[-1][1], min(costs.values()))

    def test_nobody(self):
        for book in samples.EDGES[:4]:
            self.same([is_prices(book, ()), price_of(book, (), ()), least_price(book, (), ())], [True, 0, 0])
            self.same([cheapest_deal(book, (), ()), blocks_of(book, (), ())], [(), ()])
            for pupil in range(len(book[0])):
                self.same(price_list(book, (), pupil), ())
        # A pupil without a place.
        self.same(price_list(samples.NARROW, (1, 1), 1), ())


class BlocksTest(Case):
    def test_example(self):
        self.same([is_block(LINK, ((2, 3),), ((0, 2), (4, 0))), is_block(LINK, ((2, 3),), ((4, 0),))], [True, False])

    def test_blocks_by_chance(self):
        random = Random(80)
        found = {True: 0, False: 0}
        for book in turnbooks.books() + turnbooks.TURNING * 3:
            demands = turnbooks.some_demands(book, random)
            fitting = turnbooks.fitting(book, demands)
            idle = turnbooks.idle_pairs(book)
            for share in (0.2, 0.5, 0.8):
                pairs = tuple(pair for pair in idle if random.random() < share)
                fine = all(set(pairs).intersection(truth.claims(book, m)) for m in fitting)
                self.same(is_block(book, demands, pairs), fine, (book, demands, pairs))
                found[fine] += 1
        self.assertGreater(min(found.values()), 60)

    def test_every_set_is_a_block_where_nothing_meets(self):
        for pairs in subsets(BOTH):
            self.same(is_block(LINK, ((4, 0),), pairs), True)
        for book in (samples.NARROW, samples.WIDE):
            for pupil, wish in enumerate(book[0]):
                for school in wish:
                    if not turnbooks.fitting(book, ((pupil, school),)):
                        self.same(is_block(book=book, demands=((pupil, school),), pairs=()), True)
        self.same([is_block(LINK, (), ()), is_block(LINK, (), BOTH)], [False, False])

    def test_rightful_pairs_are_refused(self):
        for book in (LINK, samples.FOUR, samples.NARROW):
            rightful = truth.rightful_pairs(book)
            for pairs in (truth.pairs(book), rightful, rightful[1:], rightful[-1:]):
                first = [pair for pair in pairs if pair in rightful]
                if first:
                    self.refuses(NotIdle, {"pair": first[0]}, is_block, book, (), pairs)

    def test_blocks_of(self):
        # Blocks for this demand have both idle pairs.
        for prices in ((3, 5), (5, 3), (10 ** 59, 4)):
            blocks = blocks_of(LINK, prices, ((2, 3),))
            self.same([sum(amount for amount, _ in blocks), {block for _, block in blocks}], [min(prices), {BOTH}])
        self.same([blocks_of(LINK, (3, 5), ()), blocks_of(LINK, (0, 5), ((2, 3),))], [(), ()])
        # Only the best dealing meets these: (4, 0) alone claims against it.
        blocks = blocks_of(LINK, prices=(3, 5), demands=((0, 1), (2, 3)))
        self.same([sum(amount for amount, _ in blocks), all((4, 0) in block for _, block in blocks)], [5, True])

    def test_nobody(self):
        for book in samples.EDGES[:4]:
            self.same([is_block(book, (), ()), blocks_of(book, (), ())], [False, ()])
