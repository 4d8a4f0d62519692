"""Point 72: a waiver that can change."""

from random import Random

from idleclaims.errors import NotIdle
from idleclaims.waiverclasses import Waiver
from tests import samples, truth, turnbooks
from tests.support import Case, no_dealings, no_numbers, no_sets_of_pairs, unusable
from tests.test_bestunder import struck_rows
from tests.test_parameters_fifth import NO_PRICES, named
from tests.test_parameters_more import waived

FOUR, LINK = samples.FOUR, samples.LINK


class WaiverTest(Case):
    def tells(self, one, book, marked, random):
        """Everything that the object tells when these pairs are waived."""
        self.same(one.marked(), marked)
        best = truth.top(truth.struck(book, marked))
        self.same(one.best(), best)
        for pupil in range(len(book[0])):
            self.same(one.gets(pupil), truth.place(best, pupil))
        self.same(one.does_all(), best == truth.best(book))
        for dealing in random.sample(truth.dealings(book), min(3, len(truth.dealings(book)))) + [best]:
            left = tuple(pair for pair in truth.claims(book, dealing) if pair not in marked)
            self.same([one.left(dealing), one.lets(dealing)], [left, left == ()])
        prices = turnbooks.some_prices(book, random)
        told = dict(zip(truth.idle_pairs(book), prices))
        self.same(one.cost(prices), sum(told[pair] for pair in marked))

    def test_example(self):
        one = Waiver(LINK, ((0, 2),))
        two = one.widened(((4, 0),))
        self.same([one.does_all(), two.does_all(), two.cost((3, 5))], [False, True, 8])
        self.same([one.marked(), two.marked(), one.cost((3, 5))], [((0, 2),), ((0, 2), (4, 0)), 3])

    def test_calls_by_chance(self):
        random = Random(85)
        for book in samples.small_books()[::2]:
            idle = truth.idle_pairs(book)
            marked = tuple(pair for pair in idle if random.random() < 0.3)
            one = Waiver(book, marked)
            for _ in range(4):
                self.tells(one, book, marked, random)
                some = tuple(pair for pair in idle if random.random() < 0.4)
                way = random.random()
                if way < 0.3:
                    self.same(one.waive(some), None)
                    marked = tuple(sorted({*marked, *some}))
                elif way < 0.6:
                    pairs = tuple(pair for pair in truth.pairs(book) if random.random() < 0.4)
                    self.same(one.claim(pairs), None)
                    marked = tuple(pair for pair in marked if pair not in pairs)
                elif way < 0.8:
                    self.refused(one, book)
                else:
                    two = one.widened(some)
                    self.assertIs(type(two), Waiver)
                    self.tells(one, book, marked, random)
                    one.waive(idle)
                    one, marked = two, tuple(sorted({*marked, *some}))
            self.tells(one, book, marked, random)

    def refused(self, one, book):
        """Refused calls, which change nothing."""
        rightful = truth.rightful_pairs(book)
        if rightful:
            pairs = tuple(sorted({*truth.idle_pairs(book)[:2], *rightful[1:], rightful[-1]}))
            first = [pair for pair in pairs if pair in rightful][0]
            self.refuses(NotIdle, {"pair": first}, one.waive, pairs)
            self.refuses(NotIdle, {"pair": first}, one.widened, pairs)
        self.not_usable("pairs", one.claim, None)
        self.not_usable("pairs", one.waive, [])
        self.not_usable("dealing", one.left, None)
        self.not_usable("prices", one.cost, None)

    def test_claiming_rightful_and_other_pairs(self):
        one = Waiver(FOUR, ((2, 0), (3, 0)))
        self.same([one.claim(((0, 0), (0, 2), (1, 0))), one.marked()], [None, ((2, 0), (3, 0))])
        self.same([one.claim(truth.pairs(FOUR)), one.marked()], [None, ()])
        self.same([one.waive(((3, 0),)), one.waive(()), one.waive(pairs=((0, 2), (3, 0)))], [None] * 3)
        self.same(one.marked(), ((0, 2), (3, 0)))
        self.same([one.claim(()), one.claim(pairs=((0, 2),)), one.marked()], [None, None, ((3, 0),)])

    def test_refused_calls_change_nothing(self):
        random = Random(86)
        one = Waiver(FOUR, ((3, 0),))
        for call in (one.waive, one.widened):
            self.refuses(NotIdle, {"pair": (1, 0)}, call, ((0, 2), (1, 0), (2, 2)))
            self.not_usable("pairs", call, ((2, 0), (0, 2)))
            self.tells(one, FOUR, ((3, 0),), random)
        self.not_usable("pairs", one.claim, ((3, 0), (0, 0)))
        self.tells(one, FOUR, ((3, 0),), random)

    def test_two_objects(self):
        random = Random(87)
        one, two = Waiver(FOUR, ()), Waiver(FOUR, ())
        three = one.widened(((2, 0),))
        one.waive(((3, 0),))
        three.claim(((2, 0),))
        three.waive(((0, 2),))
        self.tells(one, FOUR, ((3, 0),), random)
        self.tells(two, FOUR, (), random)
        self.tells(three, FOUR, ((0, 2),), random)

    def test_large_books(self):
        for book in samples.large_books() + turnbooks.TURNING:
            idle, every = struck_rows(book), range(len(book[0]))
            one = Waiver(book, idle[::2])
            self.same(one.best(), truth.asked_by_pupils(truth.struck(book, idle[::2]), every)[0])
            one.waive(idle)
            self.same([one.marked(), one.does_all(), one.cost((1,) * len(idle))], [idle, True, len(idle)])
            self.same(one.lets(one.best()), True)

    def test_nobody(self):
        for book in samples.EDGES[:4]:
            one = Waiver(book, ())
            self.same([one.marked(), one.best(), one.does_all(), one.cost(())], [(), (), True, 0])
            self.same([one.left(()), one.lets(()), one.widened(()).marked()], [(), True, ()])
            self.same([one.gets(pupil) for pupil in range(len(book[0]))], [None] * len(book[0]))

    def test_parameters(self):
        def make():
            return Waiver(LINK, ((0, 2),))

        self.hold_class("waiverclasses", Waiver, {"book": LINK, "waived": ((0, 2),)}, waived(LINK))
        for name in ("marked", "best", "does_all"):
            self.hold_method(make, name, {})
        for name in ("waive", "widened"):
            self.hold_method(make, name, {"pairs": ((4, 0),)}, named("pairs", waived(LINK)))
        self.hold_method(make, "claim", {"pairs": ((0, 0),)}, unusable("pairs", no_sets_of_pairs(LINK)))
        for name in ("left", "lets"):
            self.hold_method(make, name, {"dealing": ()}, unusable("dealing", no_dealings(LINK)))
        self.hold_method(make, "gets", {"pupil": 4}, unusable("pupil", no_numbers(5)))
        self.hold_method(make, "cost", {"prices": (3, 5)}, unusable("prices", NO_PRICES))
