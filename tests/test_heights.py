"""Point 37: heights of arrows."""

from copy import deepcopy
from itertools import product
from random import Random

from idleclaims.heights import is_strict, lets_heights, told_heights
from tests import samples, truth
from tests.support import Case

UP = ((0, 1), (0, 2), (1, 0), (2, 0), (3, 0))


def sets_of_arrows():
    """Pairs (number of schools, arrows), by chance, among them rings and none."""
    random = Random(5)
    found = [(0, ()), (1, ()), (4, UP)]
    for _ in range(120):
        many = random.randint(2, 6)
        every = [(a, b) for a in range(many) for b in range(many) if a != b]
        found.append((many, tuple(sorted(random.sample(every, random.randint(0, min(9, len(every))))))))
    return found


def book_with(many):
    """A book with so many schools and nobody."""
    return ((), ((),) * many, (1,) * many)


class HeightsTest(Case):
    def test_example(self):
        result = [told_heights(samples.FOUR, UP), lets_heights(samples.FOUR, UP, (1, 1, 1, 2))]
        self.same(result, [(4, 4, 4, 1), False])

    def test_told_heights(self):
        for many, arrows in sets_of_arrows():
            result = told_heights(book_with(many), arrows)
            self.same(result, truth.told_heights(many, arrows))
            self.same(lets_heights(book_with(many), arrows, result), True)

    def test_told_heights_along_arrows(self):
        for many, arrows in sets_of_arrows():
            heights = told_heights(book_with(many), arrows)
            for start, end in arrows:
                on_ring = truth.told_heights(many, arrows + ((end, start),)) == heights
                self.assertEqual(heights[start] == heights[end], on_ring)
                self.assertLessEqual(heights[start], heights[end])

    def test_heights_by_all_small_numbers(self):
        for many, arrows in sets_of_arrows()[:60]:
            if many < 5:
                for thing in product(range(3), repeat=many):
                    rising = all(thing[start] <= thing[end] for start, end in arrows)
                    self.same(lets_heights(book_with(many), arrows, thing), rising)
                    if rising:
                        strict = all(thing[start] < thing[end] for start, end in arrows)
                        self.same(is_strict(book_with(many), arrows, thing), strict)
                    else:
                        self.not_usable("heights", is_strict, book_with(many), arrows, thing)

    def test_no_heights(self):
        book = samples.ODD
        things = [None, 1, True, "", "00", (), (0,), (0, 0, 0), [0, 0], [], (0, -1), (0, None), (0, "0"), (0, True)]
        for thing in things + [(False, 0), ((0,), 0), (0, [0])]:
            before = deepcopy(thing)
            for arrows in ((), ((0, 1),)):
                self.same(lets_heights(book, arrows, thing), False, thing)
                self.not_usable("heights", is_strict, book, arrows, thing)
            self.same(thing, before)

    def test_any_numbers(self):
        self.same(lets_heights(samples.ODD, ((0, 1),), (10 ** 59, 10 ** 59 + 1)), True)
        self.same(is_strict(samples.ODD, ((0, 1),), (10 ** 59, 10 ** 59 + 1)), True)
        self.same(is_strict(samples.ODD, ((0, 1),), (7, 7)), False)
        self.same(is_strict(samples.ODD, (), (7, 0)), True)

    def test_arrows_of_dealings(self):
        for book in samples.small_books():
            for plain in truth.plains(book):
                for arrows in (truth.rise_arrows(book, plain), truth.fall_arrows(book, plain)):
                    heights = truth.told_heights(len(book[1]), arrows)
                    self.same(told_heights(book, arrows), heights)
                    strict = all(heights[start] < heights[end] for start, end in arrows)
                    self.same(is_strict(book, arrows, heights), strict)

    def test_twelve_schools(self):
        random = Random(6)
        every = tuple((a, b) for a in range(12) for b in range(12) if a != b)
        self.same(told_heights(book_with(12), every), (12,) * 12)
        chain = tuple((a, a + 1) for a in range(11))
        self.same(told_heights(book_with(12), chain), tuple(range(1, 13)))
        back = tuple((a + 1, a) for a in range(11))
        self.same(told_heights(book_with(12), back), tuple(range(12, 0, -1)))
        for many in (8, 14, 20):
            arrows = tuple(sorted(random.sample(every, many)))
            self.same(told_heights(book_with(12), arrows), truth.told_heights(12, arrows))

    def test_nobody(self):
        self.same(told_heights(samples.NOBODY, ()), ())
        self.same(lets_heights(samples.NOBODY, (), ()), True)
        self.same(lets_heights(samples.NOBODY, (), (0,)), False)
        self.same(is_strict(samples.NOBODY, (), ()), True)
