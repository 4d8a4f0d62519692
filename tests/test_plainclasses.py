"""Point 32: the plain dealings gone through by turnings."""

from random import Random

from idleclaims.errors import NotUsable
from idleclaims.plainclasses import Plain
from idleclaims.walks import walk_of
from tests import samples, truth
from tests.support import Case, unusable, with_bools

KINDS = ("plain", "rise", "fall", "cold")
METHODS = ("first", "last", "walk", "kinds", "here", "gone", "turnings")


class PlainTest(Case):
    def tells(self, one, book, gone):
        """Everything that the object tells when it has stood at these dealings."""
        self.same(one.first(), truth.top(book))
        self.same(one.last(), truth.bottom(book))
        self.same(one.walk(), walk_of(book))
        kinds = [tuple(p for p in truth.pairs(book) if truth.kind(book, p) == kind) for kind in KINDS]
        self.same(one.kinds(), tuple(kinds))
        self.same(one.gone(), tuple(gone))
        self.same(one.here(), gone[-1])
        self.same(one.turnings(), truth.turnings(book, gone[-1]))

    def test_example(self):
        one = Plain(samples.TWICE)
        result = [one.turnings(), one.turn((2, 3)), one.turnings(), len(one.gone())]
        self.same(result, [((0, 1), (2, 3)), ((0, 1), (1, 0), (2, 2), (3, 3)), ((0, 1),), 2])

    def test_small_books(self):
        random = Random(44)
        turned = 0
        for book in samples.small_books()[::2] + (samples.TWICE,):
            one = Plain(book)
            gone = [truth.top(book)]
            self.tells(one, book, gone)
            while truth.turnings(book, gone[-1]):
                turning = random.choice(truth.turnings(book, gone[-1]))
                gone.append(truth.turned(book, gone[-1], turning))
                self.same(one.turn(turning), gone[-1])
                self.tells(one, book, gone)
                turned += 1
            self.same(one.here(), truth.bottom(book))
        self.assertGreater(turned, 30)

    def test_refused_turnings_change_nothing(self):
        book = samples.TWICE
        one = Plain(book)
        gone = [truth.top(book), truth.turned(book, truth.top(book), (2, 3))]
        one.turn(turning=(2, 3))
        wrong = (None, 0, True, "", "01", (), (1, 0), [0, 1], (2, 3), (0, 1, 2, 3), ((0, 1),), (0,), (0, "1"))
        for turning in wrong + (with_bools((0, 1)), (0, True)):
            self.not_usable("turning", one.turn, turning)
            self.tells(one, book, gone)

    def test_two_objects(self):
        one, two = Plain(samples.ODD), Plain(samples.ODD)
        one.turn((0, 1))
        self.tells(two, samples.ODD, [truth.top(samples.ODD)])
        told = two.gone()
        two.turn((0, 1))
        self.same(told, (truth.top(samples.ODD),))
        self.tells(one, samples.ODD, list(truth.plains(samples.ODD)))

    def test_sixty_four_plain_dealings(self):
        one = Plain(samples.large_books()[1])
        for k in range(5, -1, -1):
            self.same(one.turnings(), tuple((2 * i, 2 * i + 1) for i in range(k + 1)))
            one.turn((2 * k, 2 * k + 1))
        self.same([one.turnings(), one.here() == one.last(), len(one.gone())], [(), True, 7])

    def test_nobody(self):
        for book in samples.EDGES[:4]:
            one = Plain(book)
            told = [one.first(), one.last(), one.here(), one.walk(), one.gone(), one.turnings(), one.kinds()]
            self.same(told, [(), (), (), ((),), ((),), (), ((), (), (), ())])
            self.refuses(NotUsable, {"word": "turning", "at": -1}, one.turn, ())

    def test_parameters(self):
        def make():
            return Plain(samples.ODD)

        self.hold_class("plainclasses", Plain, {"book": samples.ODD})
        for name in METHODS:
            self.hold_method(make, name, {})
        self.hold_method(lambda: Plain(samples.TWICE), "turn", {"turning": (2, 3)}, unusable("turning", (None, (3, 2))))
