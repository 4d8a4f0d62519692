"""Point 71: papers that show the least price."""

from random import Random

from idleclaims.pricepapers import lets_price, price_paper
from idleclaims.prices import least_price
from tests import samples, truth, turnbooks
from tests.offices import ByAsking
from tests.support import Case, mutations, no_dealings, no_sets_of_pairs
from tests.test_bestunder import struck_rows
from tests.test_prices import BOTH, LINK, MID
from tests.test_stepchecker import is_pairs

PRICES, DEMANDS = (3, 5), ((2, 3),)


def price_judged(book, prices, demands, thing):
    """The first entry that applies and None, or None and the price."""
    if type(thing) is not tuple or len(thing) != 2:
        return ("shape", -1), None
    dealing, blocks = thing
    fitting, idle = turnbooks.fitting(book, demands), turnbooks.idle_pairs(book)
    if not is_pairs(book, dealing) or dealing not in fitting:
        return ("dealing", 0), None
    if type(blocks) is not tuple:
        return ("blocks", 1), None
    for k, row in enumerate(blocks):
        if type(row) is not tuple or len(row) != 2 or type(row[0]) is not int or row[0] < 1:
            return ("row", k), None
        if not is_pairs(book, row[1]) or not set(row[1]) <= set(idle):
            return ("row", k), None
        if not all(set(row[1]).intersection(truth.claims(book, m)) for m in fitting):
            return ("block", k), None
    for pair, price in zip(idle, prices):
        if sum(amount for amount, block in blocks if pair in block) > price:
            return ("price", pair), None
    price = turnbooks.price(book, prices, dealing)
    if sum(amount for amount, _ in blocks) != price:
        return ("total", -1), None
    return None, price


class PricePapersTest(Case):
    def wrong(self, thing, word, at, book=LINK, prices=PRICES, demands=DEMANDS):
        self.paper_refused(word, at, lets_price, book, prices, demands, thing)
        self.same(price_judged(book, prices, demands, thing)[0], (word, at))

    def test_examples(self):
        self.same(lets_price(LINK, PRICES, DEMANDS, (MID, ((3, BOTH),))), 3)
        self.wrong((MID, ((1, BOTH), (1, ((0, 2),)))), "block", 1)

    def made(self, book, prices, demands):
        fitting = turnbooks.fitting(book, demands)
        if not fitting:
            self.not_usable("demands", price_paper, book, prices, demands)
            return False
        paper = price_paper(book, prices, demands)
        self.assertIs(type(paper), tuple)
        least = min(turnbooks.price(book, prices, m) for m in fitting)
        self.same(price_judged(book, prices, demands, paper), (None, least))
        self.same(lets_price(book, prices, demands, paper), least)
        return True

    def test_papers_of_all_books(self):
        random = Random(82)
        found = {True: 0, False: 0}
        for book in turnbooks.books() + turnbooks.TURNING * 2 + (turnbooks.WEB,) * 5 + samples.EDGES:
            prices, demands = turnbooks.some_prices(book, random), turnbooks.some_demands(book, random)
            found[self.made(book, prices, demands)] += 1
        self.assertGreater(min(found.values()), 5)

    def test_large_books(self):
        random = Random(83)
        for book in samples.large_books():
            idle = struck_rows(book)
            prices = tuple(random.choice((0, 1, 7, 10 ** 59)) for _ in idle)
            told = dict(zip(idle, prices))
            demands = random.choice(sorted(ByAsking().rightfuls(book)))[:4]
            fitting = [m for m in ByAsking().rightfuls(book) if turnbooks.meets(book, demands, m)]
            least = min(sum(told[pair] for pair in truth.claims(book, m)) for m in fitting)
            self.same(lets_price(book, prices, demands, price_paper(book, prices, demands)), least)

    def test_shapes(self):
        paper = (MID, ((3, BOTH),))
        for thing in (None, 0, True, "", "ab", (), [], list(paper), paper[:1], paper + ((),), (paper,), (MID, (), ())):
            self.wrong(thing, "shape", -1)

    def test_dealings(self):
        best = turnbooks.rightfuls(LINK)[0]
        # Not rightful; rightful, but it does not meet the demands.
        wrong = no_dealings(LINK) + [None, (), MID[:4], truth.top(LINK)]
        for dealing in wrong:
            self.wrong((dealing, ((3, BOTH),)), "dealing", 0)
            self.wrong((dealing, None), "dealing", 0)
        # Rightful, and it meets them, but it is not cheapest.
        self.wrong((best, ((3, BOTH),)), "total", -1)
        # Demands that no rightful dealing meets.
        for dealing in turnbooks.rightfuls(LINK):
            self.wrong((dealing, ()), "dealing", 0, demands=((4, 0),))
        self.same(lets_price(LINK, PRICES, ((2, 2),), (truth.top(LINK), ())), 0)

    def test_blocks(self):
        for blocks in (None, 0, True, "", "ab", [], [(3, BOTH)]):
            self.wrong((MID, blocks), "blocks", 1)
        rows = [None, 0, "", (), (3,), [3, BOTH], (3, BOTH, 1), BOTH, (0, BOTH), (-1, BOTH), (True, BOTH), ("3", BOTH)]
        rows += [(None, BOTH), (BOTH, 3), (3, list(BOTH)), (3, (0, 2)), (3, None), (3, BOTH[::-1]), (3, BOTH + BOTH)]
        rows += [(1, (pair,)) for pair in truth.rightful_pairs(LINK)] + [(3, pairs) for pairs in no_sets_of_pairs(LINK)]
        for row in rows:
            self.wrong((MID, (row,)), "row", 0)
            # Each row is looked at with all its entries ahead of the next one.
            self.wrong((MID, ((1, BOTH), row, (1, ()))), "row", 1)
            self.wrong((MID, ((1, ((4, 0),)), row)), "block", 0)
        for block in ((), ((0, 2),), ((4, 0),)):
            self.wrong((MID, ((9, block),)), "block", 0)
            self.wrong((MID, ((9, BOTH), (9, block))), "block", 1)

    def test_price_and_total(self):
        self.wrong((MID, ((4, BOTH),)), "price", (0, 2))
        self.wrong((MID, ((2, BOTH), (2, BOTH))), "price", (0, 2))
        self.wrong((MID, ((6, BOTH),)), "price", (0, 2))
        self.wrong((MID, ((4, BOTH),)), "price", (4, 0), prices=(5, 3))
        self.wrong((MID, ((2, BOTH),)), "total", -1)
        self.wrong((MID, ()), "total", -1)
        self.same(lets_price(LINK, PRICES, DEMANDS, (MID, ((2, BOTH), (1, BOTH)))), 3)
        self.same(lets_price(book=LINK, prices=(0, 5), demands=DEMANDS, thing=(MID, ())), 0)
        self.same(lets_price(LINK, (10 ** 59, 10 ** 59), DEMANDS, (MID, ((10 ** 59, BOTH),))), 10 ** 59)

    def test_papers_changed_by_chance(self):
        """Also G11: an accepted paper tells the least price."""
        random = Random(84)
        found = {}
        for book in turnbooks.TURNING * 2 + (LINK, turnbooks.WEB) * 4:
            prices, demands = turnbooks.some_prices(book, random), turnbooks.some_demands(book, random)
            if not turnbooks.fitting(book, demands):
                continue
            paper = price_paper(book, prices, demands)
            others = [(m, paper[1]) for m in turnbooks.rightfuls(book)[:4]]
            blocks = [(paper[0], self.changed(paper[1], random)) for _ in range(6)]
            for thing in mutations(paper, random, 8) + others + blocks:
                entry, shown = price_judged(book, prices, demands, thing)
                word = "none" if entry is None else entry[0]
                found[word] = found.get(word, 0) + 1
                entries = [] if entry is None else [entry]
                self.same(self.judged_as(entries, lets_price, book, prices, demands, thing), shown)
                if entry is None:
                    self.same(shown, least_price(book, prices, demands))
        for word in ("none", "shape", "dealing", "blocks", "row", "block", "price", "total"):
            self.assertGreater(found.get(word, 0), 2, (word, found))

    def changed(self, blocks, random):
        """Amounts, or pairs of blocks, changed by chance."""
        rows = []
        for amount, block in blocks:
            way = random.random()
            if way < 0.3:
                rows.append((amount + random.choice((1, 5)), block))
            elif way < 0.5:
                rows.append((amount, block[1:]))
            elif way < 0.6 and amount > 1:
                rows += [(amount - 1, block), (1, block)]
            else:
                rows.append((amount, block))
        return tuple(rows)
