"""Point 52: told pairs struck by hand."""

from random import Random

from idleclaims.errors import NothingToUndo, NotTold
from idleclaims.ladderclasses import Ladder
from idleclaims.stepchecker import lets_steps
from tests import samples, truth
from tests.support import Case, no_sets_of_pairs, unusable
from tests.test_parameters_more import not_told


class LadderTest(Case):
    def tells(self, box, book, strikings):
        """Everything that the object tells behind these strikings."""
        left = book
        for pairs in strikings:
            left = truth.struck(left, pairs)
        self.same(box.left(), left)
        self.same(box.struck(), tuple(strikings))
        self.same(box.told(), truth.told(left))
        self.same(box.has_ended(), truth.told(left) == ())
        rows = box.rows()
        self.assertIs(type(rows), tuple)
        self.same(truth.left_by_steps(book, rows), left)
        self.same(lets_steps(book, rows), left)
        return left

    def test_example(self):
        box = Ladder(samples.FOUR)
        result = [box.go_down(), box.go_down(), box.go_down(), box.has_ended(), box.struck()]
        self.same(result, [((3, 0),), ((0, 2), (2, 0)), (), True, (((3, 0),), ((0, 2), (2, 0)))])
        self.refuses(NothingToUndo, {"steps": 2}, box.back, 3)
        self.tells(box, samples.FOUR, [((3, 0),), ((0, 2), (2, 0))])

    def test_calls_by_chance(self):
        random = Random(52)
        deep = 0
        for book in samples.small_books():
            box, strikings = Ladder(book), []
            for _ in range(7):
                left = self.tells(box, book, strikings)
                told = truth.told(left)
                way = random.random()
                if way < 0.5:
                    pairs = tuple(pair for pair in told if random.random() < 0.5)
                    self.same(box.strike(pairs), None)
                    strikings += [pairs] if pairs else []
                elif way < 0.7:
                    self.same(box.go_down(), told)
                    strikings += [told] if told else []
                elif way < 0.8:
                    many = random.randint(0, len(strikings))
                    self.same(box.back(many), None)
                    del strikings[len(strikings) - many:]
                elif way < 0.9:
                    many = len(strikings) + random.randint(1, 3)
                    self.refuses(NothingToUndo, {"steps": len(strikings)}, box.back, many)
                else:
                    self.refused_striking(box, left, random)
                deep = max(deep, len(strikings))
            self.tells(box, book, strikings)
        self.assertGreater(deep, 3)

    def refused_striking(self, box, left, random):
        """Some pairs of which one at least is not told."""
        wrong = [pair for pair in truth.pairs(left) if pair not in truth.told(left)]
        if wrong:
            pairs = tuple(sorted({random.choice(wrong), *truth.told(left)[:2]}))
            first = [pair for pair in pairs if pair in wrong][0]
            self.refuses(NotTold, {"pair": first}, box.strike, pairs)
        self.not_usable("pairs", box.strike, None)

    def test_down_to_the_last_book(self):
        for book in samples.small_books() + samples.large_books():
            box, levels = Ladder(book), []
            while not box.has_ended():
                levels.append(box.go_down())
                self.assertNotEqual(levels[-1], ())
            self.same(box.go_down(), ())
            self.same(box.struck(), tuple(levels))
            left = truth.left_by_steps(book, box.rows())
            self.same(box.left(), left)
            if book in samples.small_books():
                self.same(left, truth.struck(book, truth.idle_pairs(book)))
                self.same(levels, [truth.told(level) for level in truth.ladder(book)[:-1]])

    def test_taking_back(self):
        box = Ladder(samples.FOUR)
        self.same(box.back(0), None)
        self.tells(box, samples.FOUR, [])
        self.refuses(NothingToUndo, {"steps": 0}, box.back, 1)
        box.strike(pairs=((3, 0),))
        box.strike(((0, 2),))
        box.strike(((2, 0),))
        told = box.struck()
        self.refuses(NothingToUndo, {"steps": 3}, box.back, 4)
        self.same(box.back(0), None)
        self.tells(box, samples.FOUR, list(told))
        self.same(box.back(many=2), None)
        self.tells(box, samples.FOUR, [((3, 0),)])
        self.same(told, (((3, 0),), ((0, 2),), ((2, 0),)))
        box.strike(((0, 2), (2, 0)))
        self.same(box.has_ended(), True)
        self.same(box.back(2), None)
        self.tells(box, samples.FOUR, [])

    def test_striking_nothing(self):
        box = Ladder(samples.FOUR)
        self.same(box.strike(()), None)
        self.tells(box, samples.FOUR, [])
        last = Ladder(samples.ODD)
        self.same([last.go_down(), last.strike(()), last.rows(), last.has_ended()], [(), None, (), True])
        self.tells(last, samples.ODD, [])

    def test_refused_strikings_change_nothing(self):
        box = Ladder(samples.FOUR)
        box.go_down()
        for pairs in (((2, 0), (3, 0)), [(2, 0)], None, ((0, 0), (2, 0)), ((3, 0),)):
            self.assertRaises(ValueError, box.strike, pairs)
            self.tells(box, samples.FOUR, [((3, 0),)])
        # (3, 0) is no pair of the book left; (0, 0) is one that is not told.
        self.not_usable("pairs", box.strike, ((3, 0),))
        self.refuses(NotTold, {"pair": (0, 0)}, box.strike, ((0, 0), (2, 0)))

    def test_two_objects(self):
        one, two = Ladder(samples.FOUR), Ladder(samples.FOUR)
        one.go_down()
        self.tells(two, samples.FOUR, [])
        two.go_down()
        two.go_down()
        one.back(1)
        self.tells(one, samples.FOUR, [])
        self.tells(two, samples.FOUR, [((3, 0),), ((0, 2), (2, 0))])

    def test_nobody(self):
        for book in samples.EDGES[:4]:
            box = Ladder(book)
            self.same([box.left(), box.struck(), box.told(), box.has_ended(), box.rows()], [book, (), (), True, ()])

    def test_parameters(self):
        def make():
            made = Ladder(samples.FOUR)
            made.go_down()
            return made

        self.hold_class("ladderclasses", Ladder, {"book": samples.FOUR})
        for name in ("left", "struck", "told", "has_ended", "go_down", "rows"):
            self.hold_method(make, name, {})
        wrong = unusable("pairs", no_sets_of_pairs(samples.LESS)), not_told(samples.LESS)[1]
        self.hold_method(make, "strike", {"pairs": ((0, 2),)}, *wrong)
        many = unusable("many", (None, "", "1", True, False, (1,), [1], -1, -2))
        many += [("many", value, NothingToUndo, {"steps": 1}) for value in (2, 3, 10 ** 59)]
        self.hold_method(make, "back", {"many": 1}, many)
