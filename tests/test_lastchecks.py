"""Point 46: is something the last book, or between a book and its last book?"""

from random import Random

from idleclaims.errors import InvalidPaper
from idleclaims.lastbook import last_book
from idleclaims.lastchecks import is_between, lets_last
from tests import samples, truth
from tests.support import Case, mutations, no_books


class LastChecksTest(Case):
    def judged(self, book, thing, gone):
        """thing is the book without these pairs."""
        lacking = [pair for pair in truth.rightful_pairs(book) if pair in gone]
        self.same(is_between(book, thing), not lacking)
        if lacking:
            self.refuses(InvalidPaper, {"word": "lacking", "at": lacking[0]}, lets_last, book, thing)
        else:
            self.same(lets_last(book, thing), set(gone) == set(truth.idle_pairs(book)))

    def test_examples(self):
        four = samples.FOUR
        self.same([lets_last(four, four), is_between(four, samples.ODD)], [False, False])
        thing = (((2, 0), (0, 1), (2,), (3,)), ((0, 1), (1,), (2, 0), (3,)), (1, 1, 1, 1))
        self.refuses(InvalidPaper, {"word": "lacking", "at": (0, 1)}, lets_last, four, thing)

    def test_shorter_books(self):
        random = Random(47)
        for book in samples.small_books() + samples.tiny_books()[::5]:
            idle, pairs = truth.idle_pairs(book), truth.pairs(book)
            for gone in (idle, (), idle[1:], idle[:1], pairs, pairs[:1], pairs[-1:], truth.rightful_pairs(book)):
                self.judged(book, truth.struck(book, gone), gone)
            for _ in range(4):
                gone = tuple(pair for pair in pairs if random.random() < 0.3)
                self.judged(book, truth.struck(book, gone), gone)
            left = truth.struck(book, idle)
            self.same([lets_last(book, thing=left), lets_last(left, left)], [True, True])
            self.same(left, last_book(book))

    def wrong_shape(self, book, thing):
        self.same(is_between(book, thing), False)
        self.refuses(InvalidPaper, {"word": "shape", "at": -1}, lets_last, book, thing)

    def test_no_shorter_books(self):
        for thing in no_books():
            self.wrong_shape(samples.FOUR, thing)
        for book in samples.DOCUMENT:
            for other in samples.DOCUMENT:
                if other != book and (book, other) not in ((samples.FOUR, samples.LESS),):
                    self.wrong_shape(book, other)
            wishes, rolls, seats = truth.ladder(book)[-1]
            self.wrong_shape(book, (wishes, rolls, seats[:-1] + (seats[-1] + 1,)))
            self.wrong_shape(book, (wishes + ((),), rolls, seats))
            self.wrong_shape(book, (wishes, rolls + ((),), seats + (1,)))
            self.wrong_shape(book, [wishes, rolls, seats])
        # The same pairs in another sequence; one pair that the book lacks.
        four = samples.FOUR
        self.wrong_shape(four, (((2, 1, 0),) + four[0][1:], four[1], four[2]))
        self.wrong_shape(four, (four[0], ((3, 0, 1, 2),) + four[1][1:], four[2]))
        self.wrong_shape(samples.LESS, four)
        # Both entries apply: another sequence, and a rightful pair that lacks.
        self.wrong_shape(four, (((2, 1), (0, 1), (0, 2), (0, 3)), ((3, 1, 2), (1, 0), (2, 0), (3,)), (1, 1, 1, 1)))

    def test_books_changed_by_chance(self):
        random = Random(48)
        for book in samples.small_books()[::3]:
            shorter = {truth.struck(book, gone): gone for gone in (truth.idle_pairs(book), ())}
            for thing in [changed for one in list(shorter) for changed in mutations(one, random, 12)]:
                pairs = truth.pairs(book)
                gone = self.gone_from(book, thing, pairs)
                if gone is None:
                    self.wrong_shape(book, thing)
                else:
                    self.judged(book, thing, gone)

    def gone_from(self, book, thing, pairs):
        """The pairs that were struck if thing is a shorter book, else None."""
        if repr(thing)[:1] != "(" or len(thing) != 3 or type(thing[0]) is not tuple:
            return None
        lists = [listed if type(listed) is tuple else () for listed in thing[0]]
        gone = tuple(pair for pair in pairs if pair[0] >= len(lists) or pair[1] not in lists[pair[0]])
        return gone if repr(truth.struck(book, gone)) == repr(thing) else None

    def test_nobody(self):
        for book in samples.EDGES[:4]:
            self.same([lets_last(book, book), is_between(book, book)], [True, True])
