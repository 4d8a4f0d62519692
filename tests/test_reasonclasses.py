"""Point 42: what stands at a plain dealing."""

from random import Random

from idleclaims.errors import NotUsable
from idleclaims.reasonclasses import Standing
from tests import samples, truth
from tests.support import Case, no_pairs_at_all, not_plain, unusable
from tests.test_stepchecker import are_marks

REASONS = ("cold", "up", "down", "rank")
METHODS = ("told", "rises", "falls", "rise_heights", "fall_heights", "ranks", "struck", "struck_all")


def told_marks(book, plain, reason):
    many = len(book[1])
    if reason == "up":
        return truth.told_heights(many, truth.rise_arrows(book, plain))
    if reason == "down":
        return truth.told_heights(many, truth.fall_arrows(book, plain))
    return truth.told_ranks(book, plain) if reason == "rank" else ()


class StandingTest(Case):
    def tells(self, one, book, plain):
        """Everything that the object tells."""
        self.same(one.told(), (book, plain))
        self.same(one.rises(), truth.rises(book, plain))
        self.same(one.falls(), truth.falls(book, plain))
        self.same(one.rise_heights(), told_marks(book, plain, "up"))
        self.same(one.fall_heights(), told_marks(book, plain, "down"))
        self.same(one.ranks(), told_marks(book, plain, "rank"))
        struck = [truth.struck_pairs(book, plain, reason, told_marks(book, plain, reason)) for reason in REASONS]
        self.same(one.struck(), tuple(struck))
        self.same(one.struck_all(), tuple(sorted(set().union(*struck))))
        for pair in truth.pairs(book):
            reasons = tuple(reason for reason, pairs in zip(REASONS, struck) if pair in pairs)
            self.same(one.reasons_for(pair), reasons)
            # "cold" strikes alone; a pair that "up" strikes is struck by no reason of the other side.
            self.assertIn(reasons, ((), ("cold",), ("up",), ("down",), ("rank",), ("down", "rank")))
        return struck

    def test_example(self):
        self.same(Standing(samples.FOUR, samples.STILL).struck(), ((), ((3, 0),), (), ()))
        self.same(Standing(samples.SIDES, samples.STILL).reasons_for((0, 3)), ("down", "rank"))

    def test_small_books(self):
        found = dict.fromkeys(REASONS, 0)
        for book in samples.small_books() + samples.tiny_books()[::5]:
            for plain in truth.plains(book):
                struck = self.tells(Standing(book, plain), book, plain)
                for reason, pairs in zip(REASONS, struck):
                    found[reason] += len(pairs)
                    self.assertTrue(set(pairs) <= set(truth.loose(book)))
        self.assertTrue(all(many > 30 for many in found.values()), found)

    def test_any_right_marks(self):
        """With other right marks a reason strikes nothing that it does not strike with told ones."""
        random = Random(56)
        found = 0
        for book in samples.small_books()[::3]:
            many = len(book[1])
            for plain in truth.plains(book):
                struck = dict(zip(REASONS, Standing(book, plain).struck()))
                for _ in range(12):
                    heights = tuple(random.randint(0, 3) for _ in range(many))
                    ranks = tuple(random.choice((None, 0, 1, 2)) for _ in range(many))
                    for reason, marks in (("up", heights), ("down", heights), ("rank", ranks)):
                        if are_marks(book, plain, reason, marks):
                            some = truth.struck_pairs(book, plain, reason, marks)
                            self.assertTrue(set(some) <= set(struck[reason]))
                            found += len(some)
        self.assertGreater(found, 50)

    def test_turned(self):
        found = 0
        for book in samples.small_books()[::2] + (samples.TWICE,):
            for plain in truth.plains(book):
                one = Standing(book, plain)
                for turning in truth.turnings(book, plain):
                    other = one.turned(turning)
                    self.assertIs(type(other), Standing)
                    self.tells(other, book, truth.turned(book, plain, turning))
                    self.same(one.is_same(other), False)
                    found += 1
                for turning in (None, (), (1, 0), [0, 1], (False, True), "01"):
                    self.refuses(NotUsable, {"word": "turning", "at": -1}, one.turned, turning)
                self.same(one.told(), (book, plain))
        self.assertGreater(found, 30)

    def test_is_same(self):
        for book in samples.DOCUMENT + samples.EDGES:
            for plain in truth.plains(book):
                one = Standing(book, plain)
                for other_book in samples.DOCUMENT + samples.EDGES:
                    for other in truth.plains(other_book):
                        expected = book == other_book and plain == other
                        self.same(one.is_same(Standing(other_book, other)), expected)
                for other in (None, True, 0, "", (), book, plain, (book, plain), [book, plain], one.told(), Standing):
                    self.same(one.is_same(other), False)
                self.same(one.is_same(other=one), True)

    def test_large_books(self):
        for book in samples.large_books():
            for asked_by in (truth.asked_by_pupils, truth.asked_by_schools):
                plain = asked_by(book, range(12))[0]
                self.tells(Standing(book, plain), book, plain)

    def test_parameters(self):
        def make():
            return Standing(samples.ODD, ((0, 1), (1, 0)))

        right = {"book": samples.ODD, "plain": ((0, 0), (1, 1))}
        self.hold_class("reasonclasses", Standing, right, not_plain(samples.ODD))
        for name in METHODS:
            self.hold_method(make, name, {})
        self.hold_method(make, "reasons_for", {"pair": (0, 0)}, unusable("pair", no_pairs_at_all(samples.ODD)))
        self.hold_method(make, "turned", {"turning": (0, 1)}, unusable("turning", (None, (1, 0), (), (True, 0))))
        self.hold_method(make, "is_same", {"other": None})
