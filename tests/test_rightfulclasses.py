"""Point 62: the rightful dealings as an object."""

from itertools import islice
from random import Random
from types import GeneratorType

from idleclaims.joining import down_from
from idleclaims.rightfulclasses import Rightful
from tests import samples, truth, turnbooks
from tests.offices import ByAsking
from tests.support import Case, no_dealings, unusable
from tests.test_bestunder import struck_rows
from tests.test_between import joined
from tests.test_parameters_fourth import not_rightful

METHODS = ("best", "worst", "idle", "how_many", "each_rightful")


class RightfulTest(Case):
    def tells(self, whole, book):
        rightful = turnbooks.rightfuls(book)
        self.same(whole.best(), turnbooks.favourite(book, rightful))
        worst = [m for m in rightful if all(truth.gainers(book, other, m) == () for other in rightful)]
        self.same([whole.worst()], worst)
        self.same([whole.idle(), whole.how_many()], [turnbooks.idle_pairs(book), len(rightful)])
        self.same(list(whole.each_rightful()), list(rightful))

    def test_example(self):
        whole = Rightful(samples.FOUR)
        self.same([whole.idle(), whole.holds(samples.SWAP)], [((0, 2), (2, 0), (3, 0)), False])

    def test_what_it_tells(self):
        for book in turnbooks.books() + samples.tiny_books()[::2]:
            self.tells(Rightful(book), book)

    def test_dealings(self):
        random = Random(63)
        for book in samples.small_books()[::2]:
            whole = Rightful(book)
            for dealing in truth.dealings(book)[::5] + truth.rightfuls(book):
                self.same(whole.holds(dealing), dealing in truth.rightfuls(book))
                claims = [pair for pair in truth.claims(book, dealing) if pair in truth.rightful_pairs(book)]
                self.same(whole.objecting(dealing), tuple(claims))
            one, two = random.choice(truth.rightfuls(book)), random.choice(truth.rightfuls(book))
            self.same([whole.better(one, two), whole.worse(one, two)], joined(book, one, two))
            self.same(whole.down(one), down_from(book, one))
            self.tells(whole, book)

    def test_turning_books(self):
        random = Random(64)
        for book in turnbooks.TURNING:
            whole = Rightful(book)
            for _ in range(6):
                one, two = random.choice(turnbooks.rightfuls(book)), random.choice(turnbooks.rightfuls(book))
                self.same([whole.better(one, two), whole.worse(one, two)], joined(book, one, two))
                down = whole.down(one)
                self.same([down[0], down[-1], down], [one, whole.worst(), down_from(book, one)])
                self.same([whole.holds(one), whole.holds(one[1:]), whole.objecting(two)], [True, False, ()])

    def test_asked_several_times(self):
        whole = Rightful(samples.TWICE)
        one, two = whole.each_rightful(), whole.each_rightful()
        self.assertIs(type(one), GeneratorType)
        first = next(one)
        self.same(list(two), list(truth.rightfuls(samples.TWICE)))
        self.same([first, *one], list(truth.rightfuls(samples.TWICE)))
        self.same(list(islice(whole.each_rightful(), 2)), list(truth.rightfuls(samples.TWICE)[:2]))
        self.same([*one, *two], [])

    def test_two_objects(self):
        one, two, other = Rightful(samples.FOUR), Rightful(samples.FOUR), Rightful(samples.ODD)
        generator = one.each_rightful()
        self.same(next(generator), samples.BEST)
        self.assertRaises(ValueError, one.down, samples.SWAP)
        self.tells(two, samples.FOUR)
        self.tells(other, samples.ODD)
        self.same(list(generator), [samples.STILL])
        self.tells(one, samples.FOUR)

    def test_large_books(self):
        for book in samples.large_books():
            whole = Rightful(book)
            found = list(whole.each_rightful())
            self.same([len(found), set(found)], [whole.how_many(), ByAsking().rightfuls(book)])
            self.same(whole.down(whole.best())[-1], whole.worst())
            self.same([whole.idle(), whole.objecting(whole.best())], [struck_rows(book), ()])
        self.same(Rightful(samples.large_books()[1]).how_many(), 64)

    def test_nobody(self):
        for book in samples.EDGES[:4]:
            whole = Rightful(book)
            self.same([whole.best(), whole.worst(), whole.idle(), whole.how_many()], [(), (), (), 1])
            self.same([list(whole.each_rightful()), whole.holds(()), whole.objecting(())], [[()], True, ()])
            self.same([whole.better((), ()), whole.worse((), ()), whole.down(())], [(), (), ((),)])

    def test_parameters(self):
        def make():
            return Rightful(samples.FOUR)

        self.hold_class("rightfulclasses", Rightful, {"book": samples.FOUR})
        for name in METHODS[:-1]:
            self.hold_method(make, name, {})
        self.assertIn("each_rightful", vars(Rightful))
        dealing = unusable("dealing", no_dealings(samples.FOUR))
        for name in ("holds", "objecting"):
            self.hold_method(make, name, {"dealing": samples.SWAP}, dealing)
        for name in ("better", "worse"):
            right = {"dealing": samples.BEST, "other": samples.STILL}
            self.hold_method(make, name, right, not_rightful("dealing"), not_rightful("other"))
        self.hold_method(make, "down", {"dealing": samples.BEST}, not_rightful("dealing"))
