"""Point 44: the ladder."""

from idleclaims.ladder import how_many_levels, ladder_of, level_book, level_of
from tests import samples, truth
from tests.support import Case


def tower_level(pair):
    """The level of a pair of a tower as the document states it; None for a rightful one."""
    a, b = pair
    i, k, j = a // 3, a - a // 3 * 3, b - b // 3 * 3
    if (k, j) == (2, 0):
        return i
    if b // 3 == i + 1:
        return i + 1
    return a // 3 if b // 3 == i - 1 else None


class LadderTest(Case):
    def test_example(self):
        four = samples.FOUR
        result = [how_many_levels(four), level_of(four, (3, 0)), level_of(four, (2, 0)), level_of(four, (0, 1))]
        self.same(result, [2, 0, 1, None])

    def test_by_definition(self):
        for book in samples.small_books() + samples.tiny_books():
            ladder = truth.ladder(book)
            self.same(ladder_of(book), ladder)
            self.same(how_many_levels(book), len(ladder) - 1)
            for level, left in enumerate(ladder):
                self.same(level_book(book, level), left)
            for pair in truth.pairs(book):
                having = [level for level, left in enumerate(ladder) if pair in truth.pairs(left)]
                expected = None if having[-1] == len(ladder) - 1 else having[-1]
                self.same(level_of(book, pair), expected)

    def test_levels_that_are_not_there(self):
        for book in samples.small_books()[::4]:
            many = len(truth.ladder(book))
            for level in (many, many + 1, -1, -many, 10 ** 59):
                self.not_usable("level", level_book, book, level)

    def test_idle_pairs_have_levels(self):
        for book in samples.small_books() + samples.tiny_books():
            for pair in truth.pairs(book):
                self.assertEqual(level_of(book, pair) is None, pair in truth.rightful_pairs(book))

    def test_the_rest_of_the_ladder(self):
        for book in samples.small_books()[::3]:
            ladder = ladder_of(book)
            for level, left in enumerate(ladder):
                self.same(ladder_of(left), ladder[level:])

    def test_plain_at_later_levels(self):
        for book in samples.small_books()[::3]:
            ladder = ladder_of(book)
            for here, there in zip(ladder, ladder[1:]):
                self.assertTrue(set(truth.plains(here)) <= set(truth.plains(there)))

    def test_levels_and_loose_pairs(self):
        for book in samples.small_books():
            for level, left in enumerate(ladder_of(book)):
                here = {pair for pair in truth.pairs(book) if level_of(book, pair) == level}
                self.assertTrue(here <= set(truth.loose(left)))
                if max(book[2], default=1) == 1:
                    self.assertEqual(here, set(truth.loose(left)))

    def test_side_by_side(self):
        books = [samples.FOUR, samples.TWO, samples.SIDES, samples.tower(2), samples.WIDE]
        for book in books:
            for other in books:
                both = samples.beside(book, other)
                self.same(how_many_levels(both), max(how_many_levels(book), how_many_levels(other)))
                for pair in truth.pairs(book):
                    self.same(level_of(both, pair), level_of(book, pair))
                for a, b in truth.pairs(other):
                    there = (a + len(book[0]), b + len(book[1]))
                    self.same(level_of(both, there), level_of(other, (a, b)))

    def test_towers(self):
        for many in (1, 2, 3, 4):
            book = samples.tower(many)
            self.same(how_many_levels(book), many)
            for pair in truth.pairs(book):
                self.same(level_of(book, pair), tower_level(pair), (many, pair))
            for level in range(many + 1):
                gone = [p for p in truth.pairs(book) if tower_level(p) is not None and tower_level(p) < level]
                self.same(level_book(book, level), truth.struck(book, gone))

    def test_nobody(self):
        for book in samples.EDGES[:4]:
            self.same(ladder_of(book), (book,))
            self.same(how_many_levels(book), 0)
            self.same(level_book(book, 0), book)
            self.not_usable("level", level_book, book, 1)
