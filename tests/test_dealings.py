"""Point 17: places in dealings."""

from itertools import product

from idleclaims.dealings import dealing_of, free_seats, held_by, moved, place_of, places_of
from tests import samples, truth
from tests.support import Case


class DealingsTest(Case):
    def test_example(self):
        some = ((0, 1), (1, 0))
        two = samples.TWO
        result = [places_of(two, some), free_seats(two, some, 0), moved(two, some, ((0, 0), (2, 1)))]
        self.same(result, [(1, 0, None), 1, ((0, 0), (1, 0), (2, 1))])

    def test_by_definition(self):
        for book in samples.small_books():
            for dealing in truth.dealings(book)[::6] + truth.plains(book):
                places = tuple(truth.place(dealing, pupil) for pupil in range(len(book[0])))
                self.same(places_of(book, dealing), places)
                self.same(dealing_of(book, places), dealing)
                for pupil, place in enumerate(places):
                    self.same(place_of(book, dealing, pupil), place)
                for school, many in enumerate(book[2]):
                    held = tuple(sorted(truth.held(dealing, school)))
                    self.same(held_by(book, dealing, school), held)
                    self.same(free_seats(book, dealing, school), many - len(held))

    def test_thirty_figures_of_seats(self):
        many = samples.WIDE[2][0]
        self.same(free_seats(samples.WIDE, (), 0), many)
        self.same(free_seats(samples.WIDE, ((0, 0), (1, 0), (3, 0)), 0), many - 3)
        self.same(held_by(samples.WIDE, ((0, 0), (1, 0), (3, 0)), 0), (0, 1, 3))

    def test_dealing_of_all_places(self):
        for book in samples.DOCUMENT[:6] + (samples.WIDE,):
            known = {}
            for dealing in truth.dealings(book):
                known[tuple(truth.place(dealing, pupil) for pupil in range(len(book[0])))] = dealing
            for places in product([None, *range(len(book[1]))], repeat=len(book[0])):
                if places in known:
                    self.same(dealing_of(book, places), known[places])
                else:
                    self.not_usable("places", dealing_of, book, places)

    def test_moved(self):
        for book in samples.DOCUMENT[:5] + (samples.WIDE,):
            dealings = truth.dealings(book)
            for dealing in dealings[::4]:
                for pairs in dealings:
                    self.moved_rightly(book, dealing, pairs)

    def moved_rightly(self, book, dealing, pairs):
        leaving = [a for a, _ in pairs]
        expected = tuple(sorted([pair for pair in dealing if pair[0] not in leaving] + list(pairs)))
        if truth.is_dealing(book, expected):
            self.same(moved(book, dealing, pairs), expected)
        else:
            self.not_usable("pairs", moved, book, dealing, pairs)

    def test_moved_all_at_once(self):
        self.same(moved(samples.FOUR, samples.STILL, ((0, 1), (1, 0))), samples.BEST)
        self.same(moved(samples.FOUR, samples.STILL, ()), samples.STILL)
        self.same(moved(samples.FOUR, samples.STILL, samples.STILL), samples.STILL)
        self.same(moved(samples.FOUR, (), samples.BEST), samples.BEST)
        self.not_usable("pairs", moved, samples.FOUR, samples.STILL, ((0, 1),))
        self.not_usable("pairs", moved, samples.FOUR, (), ((0, 0), (0, 1)))
        self.not_usable("pairs", moved, samples.FOUR, (), ((0, 0), (1, 0)))

    def test_nobody(self):
        for book in samples.EDGES[:4]:
            self.same(places_of(book, ()), (None,) * len(book[0]))
            self.same(dealing_of(book, (None,) * len(book[0])), ())
            self.same(moved(book, (), ()), ())
            for school, many in enumerate(book[2]):
                self.same(held_by(book, (), school), ())
                self.same(free_seats(book, (), school), many)
            for pupil in range(len(book[0])):
                self.same(place_of(book, (), pupil), None)
