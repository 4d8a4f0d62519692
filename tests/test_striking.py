"""Point 43: told pairs are struck."""

from itertools import product
from random import Random

from idleclaims.errors import NotTold
from idleclaims.striking import is_end, strike, strike_all, struck_by
from tests import samples, truth
from tests.support import Case


def struck_one_by_one(book, digits):
    """The strikings of struck_by, by the words of the document."""
    struck, left, rest = [], book, list(digits)
    while truth.told(left):
        digit = rest.pop(0) if rest else 0
        told = truth.told(left)
        struck.append(told[digit - digit // len(told) * len(told)])
        left = truth.struck(left, struck[-1:])
    return tuple(struck)


class StrikingTest(Case):
    def test_examples(self):
        four = samples.FOUR
        self.same(strike_all(four, ((3, 0),)), samples.LESS)
        self.same(strike(four, (3, 0)), samples.LESS)
        self.refuses(NotTold, {"pair": (2, 0)}, strike_all, four, ((2, 0), (3, 0)))
        result = [struck_by(four, ()), struck_by(four, (5, 1)), is_end(samples.TWO)]
        self.same(result, [((3, 0), (0, 2), (2, 0)), ((3, 0), (2, 0), (0, 2)), True])

    def test_strike(self):
        for book in samples.small_books() + samples.tiny_books():
            told = truth.told(book)
            for pair in truth.pairs(book):
                if pair in told:
                    self.same(strike(book, pair), truth.struck(book, (pair,)))
                else:
                    self.refuses(NotTold, {"pair": pair}, strike, book, pair)

    def test_strike_all(self):
        for book in samples.small_books():
            told = truth.told(book)
            pairs = truth.pairs(book)
            for gone in {(), told, told[:1], told[1:], told[::2]}:
                self.same(strike_all(book, gone), truth.struck(book, gone))
            for gone in {pairs, pairs[:2], pairs[1:], pairs[1::2]}:
                wrong = [pair for pair in gone if pair not in told]
                if wrong:
                    self.refuses(NotTold, {"pair": wrong[0]}, strike_all, book, gone)
                else:
                    self.same(strike_all(book, gone), truth.struck(book, gone))

    def test_loose_pairs_that_are_not_told(self):
        for book in samples.small_books():
            for pair in truth.loose(book):
                if pair not in truth.told(book):
                    self.refuses(NotTold, {"pair": pair}, strike, book, pair)

    def test_struck_by(self):
        random = Random(4)
        for book in samples.small_books():
            for digits in ((2, 1, 3), tuple(random.randrange(10 ** 59) for _ in range(9))):
                self.same(struck_by(book, digits), struck_one_by_one(book, digits), (book, digits))

    def test_struck_by_all_digits(self):
        for digits in product(range(4), repeat=4):
            self.same(struck_by(samples.FOUR, digits), struck_one_by_one(samples.FOUR, digits))
            self.same(struck_by(samples.LINK, digits), struck_one_by_one(samples.LINK, digits))

    def test_each_idle_pair_once(self):
        random = Random(9)
        for book in samples.small_books() + samples.tiny_books():
            digits = tuple(random.randrange(20) for _ in range(8))
            self.same(tuple(sorted(struck_by(book, digits))), truth.idle_pairs(book))

    def test_no_digits(self):
        things = [None, 0, True, "", "51", [], [5, 1], (5, -1), (5, True), (False,), (None,), ("5",), ((5,),), (5, [1])]
        for thing in things:
            self.not_usable("digits", struck_by, samples.FOUR, thing)
            self.not_usable("digits", struck_by, samples.ODD, thing)
        # Digits that are not needed are judged, too.
        self.not_usable("digits", struck_by, samples.FOUR, (0, 0, 0, 0, 0, -1))
        self.same(struck_by(samples.ODD, (3, 4, 5)), ())

    def test_is_end(self):
        for book in samples.small_books() + samples.tiny_books():
            self.same(is_end(book), truth.told(book) == ())
            self.same(is_end(truth.struck(book, truth.idle_pairs(book))), True)

    def test_towers(self):
        for many in (1, 2, 3, 4):
            book = samples.tower(many)
            rightful = {(3 * i + k, 3 * i + j) for i in range(many) for k, j in samples.STOREY}
            for digits in ((), (1, 2, 3), (10 ** 59,) * 20):
                struck = struck_by(book, digits)
                self.same(tuple(sorted(struck)), tuple(p for p in truth.pairs(book) if p not in rightful))
            self.same(is_end(book), False)

    def test_nobody(self):
        for book in samples.EDGES[:4]:
            self.same(strike_all(book, ()), book)
            self.same(struck_by(book, (1,)), ())
            self.same(is_end(book), True)
