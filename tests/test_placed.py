"""Point 26: what is the same in all plain dealings."""

from idleclaims.placed import filled, fixed_schools, placed_pupils
from tests import samples, truth
from tests.support import Case


class PlacedTest(Case):
    def held_against(self, book, plains):
        for plain in plains:
            self.same(placed_pupils(book), tuple(a for a, _ in plain))
            self.same(filled(book), tuple(len(truth.held(plain, b)) for b in range(len(book[1]))))
            free = tuple(b for b in range(len(book[1])) if not truth.is_full(book, plain, b))
            self.same(fixed_schools(book), free)

    def test_example(self):
        narrow = samples.NARROW
        self.same([placed_pupils(narrow), filled(narrow), fixed_schools(narrow)], [(0,), (1, 0), (1,)])

    def test_all_plain_dealings(self):
        for book in samples.small_books() + samples.tiny_books():
            self.held_against(book, truth.plains(book))

    def test_several_seats(self):
        book = (((0, 1), (1, 0), (1, 0)), ((1, 0, 2), (0, 1, 2)), (2, 2))
        self.same([placed_pupils(book), filled(book), fixed_schools(book)], [(0, 1, 2), (1, 2), (0,)])
        self.held_against(samples.WIDE, truth.plains(samples.WIDE))
        self.same([filled(samples.WIDE), fixed_schools(samples.WIDE)], [(2, 1), (0,)])

    def test_fixed_schools_hold_the_same(self):
        for book in samples.small_books():
            for school in fixed_schools(book):
                self.assertEqual(len({tuple(truth.held(plain, school)) for plain in truth.plains(book)}), 1)

    def test_large_books(self):
        for book in samples.large_books():
            every = range(len(book[0]))
            self.held_against(book, (truth.asked_by_pupils(book, every)[0],))
            low = truth.asked_by_schools(book, every)[0]
            self.same(placed_pupils(book), tuple(a for a, _ in low))

    def test_nobody(self):
        for book in samples.EDGES[:4]:
            self.same(placed_pupils(book=book), ())
            self.same(filled(book=book), (0,) * len(book[1]))
            self.same(fixed_schools(book=book), tuple(range(len(book[1]))))
