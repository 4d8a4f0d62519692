"""Point 27: turnings."""

from idleclaims.turning import next_school, points_to, turned, turnings_at
from tests import samples, truth
from tests.support import Case


class TurningTest(Case):
    def test_examples(self):
        less, best, narrow = samples.LESS, samples.BEST, samples.NARROW
        self.same([next_school(less, best, 0), points_to(less, best, 0)], [0, 1])
        self.same([next_school(narrow, ((0, 0),), 0), points_to(narrow, ((0, 0),), 0)], [1, None])
        self.same([turnings_at(less, best), turned(less, best, (0, 1))], [((0, 1),), samples.STILL])
        self.not_usable("turning", turned, less, best, (1, 0))

    def test_by_definition(self):
        for book in samples.small_books() + samples.tiny_books():
            for plain in truth.plains(book):
                for pupil in range(len(book[0])):
                    self.same(next_school(book, plain, pupil), truth.next_school(book, plain, pupil))
                    self.same(points_to(book, plain, pupil), truth.points_to(book, plain, pupil))
                turnings = truth.turnings(book, plain)
                self.same(turnings_at(book, plain), turnings)
                for turning in turnings:
                    self.same(turned(book, plain, turning), truth.turned(book, plain, turning))

    def test_consequences(self):
        for book in samples.small_books():
            for plain in truth.plains(book):
                turnings = turnings_at(book, plain)
                pupils = [a for turning in turnings for a in turning]
                schools = [truth.place(plain, a) for a in pupils]
                self.assertEqual(len(set(pupils)), len(pupils))
                self.assertEqual(len(set(schools)), len(schools))
                self.assertEqual(turnings == (), plain == truth.bottom(book))
                for turning in turnings:
                    result = turned(book, plain, turning)
                    self.assertIn(result, truth.plains(book))
                    self.same(truth.gainers(book, result, plain), tuple(sorted(turning)))

    def test_a_turning_of_three(self):
        book = (((0, 1, 2), (1, 2, 0), (2, 0, 1)), ((1, 2, 0), (2, 0, 1), (0, 1, 2)), (1, 1, 1))
        first = ((0, 0), (1, 1), (2, 2))
        self.same([points_to(book, first, a) for a in range(3)], [1, 2, 0])
        self.same(turnings_at(book, first), ((0, 1, 2),))
        second = turned(book, first, (0, 1, 2))
        self.same(second, ((0, 1), (1, 2), (2, 0)))
        self.same(turned(book, second, (0, 1, 2)), ((0, 2), (1, 0), (2, 1)))

    def test_a_turning_is_written_as_its_pupils_point(self):
        book = (((0, 2, 1), (1, 0, 2), (2, 1, 0)), ((1, 2, 0), (0, 2, 1), (1, 0, 2)), (1, 1, 1))
        first = ((0, 0), (1, 1), (2, 2))
        self.same(turnings_at(book, first), ((0, 2, 1),))
        self.same(turned(book, first, (0, 2, 1)), ((0, 2), (1, 0), (2, 1)))
        for thing in ((0, 1, 2), (2, 1, 0), (1, 0, 2)):
            self.not_usable("turning", turned, book, first, thing)

    def test_not_a_turning(self):
        book, plain = samples.TWICE, truth.top(samples.TWICE)
        self.same(turnings_at(book, plain), ((0, 1), (2, 3)))
        things = [(), (0,), (1, 0), (0, 2), (0, 1, 2, 3), ((0, 1),), [0, 1], "01", None, 0, (False, True), (0, True)]
        for thing in things + [(3, 2), True, [], ([0, 1],), (0, 1, 0)]:
            self.not_usable("turning", turned, book, plain, thing)
        self.same(turned(book, plain, (2, 3)), ((0, 1), (1, 0), (2, 2), (3, 3)))
        self.same(turnings_at(book, turned(book, plain, (2, 3))), ((0, 1),))

    def test_without_places(self):
        for book in samples.EDGES[:4]:
            self.same(turnings_at(book, ()), ())
            for pupil in range(len(book[0])):
                self.same(next_school(book, (), pupil), None)
                self.same(points_to(book, (), pupil), None)
        self.same(next_school(samples.NARROW, ((0, 0),), 1), None)
        self.same(points_to(samples.NARROW, ((0, 0),), 1), None)

    def test_large_books(self):
        for book in samples.large_books():
            plain, _ = truth.asked_by_pupils(book, range(12))
            low, _ = truth.asked_by_schools(book, range(12))
            turnings = turnings_at(book, plain)
            self.same(turnings, truth.turnings(book, plain))
            for turning in turnings:
                self.same(turned(book, plain, turning), truth.turned(book, plain, turning))
            self.same(turnings_at(book, low), ())
