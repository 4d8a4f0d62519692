"""Point 16: towns, and towers."""

from random import Random

from idleclaims.ladder import how_many_levels, level_of
from idleclaims.rightful import how_many_rightful, rightful_level
from idleclaims.towers import tower
from idleclaims.towns import town_book, towns_of
from tests import samples, truth
from tests.support import Case


def towns_by_arrows(book):
    """The towns by closing the arrows that lead both ways."""
    things = [("pupil", a) for a in range(len(book[0]))] + [("school", b) for b in range(len(book[1]))]
    leads = {one: {one} for one in things}
    for a, b in truth.pairs(book):
        leads["pupil", a].add(("school", b))
        leads["school", b].add(("pupil", a))
    for middle in things:
        for one in things:
            if middle in leads[one]:
                leads[one] |= leads[middle]
    found = []
    for one in things:
        pupils = tuple(sorted(n for word, n in leads[one] if word == "pupil"))
        schools = tuple(sorted(n for word, n in leads[one] if word == "school"))
        if (pupils, schools) not in found:
            found.append((pupils, schools))
    return tuple(found)


def part_of(book, pupils, schools):
    """The book of these pupils and schools alone, renamed by dicts."""
    names = {a: k for k, a in enumerate(pupils)}
    schools_names = {b: k for k, b in enumerate(schools)}
    wishes = tuple(tuple(schools_names[b] for b in book[0][a] if b in schools_names) for a in pupils)
    rolls = tuple(tuple(names[a] for a in book[1][b] if a in names) for b in schools)
    return (wishes, rolls, tuple(book[2][b] for b in schools))


class TownsTest(Case):
    def test_by_hand(self):
        self.same(towns_of(samples.TWICE), (((0, 1), (0, 1)), ((2, 3), (2, 3))))
        self.same(towns_of(samples.FOUR), (((0, 1, 2, 3), (0, 1, 2, 3)),))
        crossed = (((2,), (), (0, 2), (3,)), ((2,), (), (2, 0), (3,), ()), (1, 1, 1, 1, 1))
        towns = (((0, 2), (0, 2)), ((1,), ()), ((3,), (3,)), ((), (1,)), ((), (4,)))
        self.same(towns_of(crossed), towns)

    def test_by_arrows(self):
        for book in samples.small_books() + samples.tiny_books()[::3] + samples.large_books():
            self.same(towns_of(book), towns_by_arrows(book))

    def test_nobody(self):
        self.same(towns_of(samples.NOBODY), ())
        self.same(towns_of(samples.NO_PUPILS), (((), (0,)), ((), (1,))))
        self.same(towns_of(samples.NO_SCHOOLS), (((0,), ()), ((1,), ()), ((2,), ())))
        self.same(towns_of(samples.NO_LISTS), (((0,), ()), ((1,), ()), ((), (0,))))

    def test_example(self):
        self.same(town_book(samples.TWO, (0, 2), (1,)), (((0,), (0,)), ((1, 0),), (1,)))

    def test_parts(self):
        random = Random(32)
        for book in samples.small_books() + samples.large_books():
            for _ in range(4):
                pupils = tuple(a for a in range(len(book[0])) if random.random() < 0.6)
                schools = tuple(b for b in range(len(book[1])) if random.random() < 0.6)
                self.same(town_book(book, pupils, schools), part_of(book, pupils, schools))
            every = tuple(range(len(book[0]))), tuple(range(len(book[1])))
            self.same(town_book(book, *every), book)
            self.same(town_book(book, (), ()), ((), (), ()))
            self.same(town_book(book, every[0], ()), (((),) * len(book[0]), (), ()))
            self.same(town_book(book, (), every[1]), ((), ((),) * len(book[1]), book[2]))

    def test_rightful_dealings_of_towns(self):
        # Nothing goes from town to town: the rightful dealings are put together of those of the towns.
        for book in samples.small_books()[::3] + (samples.TWICE,):
            many = 1
            for pupils, schools in towns_of(book):
                part = town_book(book, pupils, schools)
                many *= len(truth.rightfuls(part))
                again = ((tuple(range(len(pupils))), tuple(range(len(schools)))),)
                self.same(towns_of(part), again)
            self.same(len(truth.rightfuls(book)), many)


class TowerTest(Case):
    def test_example(self):
        self.same(tower(1), (((1, 0), (0, 1), (0, 2)), ((0, 2, 1), (1, 0), (2,)), (1, 1, 1)))

    def test_lists(self):
        two = (
            ((1, 5, 0), (0, 1), (0, 2), (4, 3), (3, 0, 4), (3, 5)),
            ((0, 2, 1, 4), (1, 0), (2,), (3, 5, 4), (4, 3), (5, 0)),
            (1, 1, 1, 1, 1, 1),
        )
        self.same(tower(2), two)
        for many in (1, 2, 3, 4):
            self.same(tower(many=many), samples.tower(many))

    def test_many(self):
        for many in (None, True, False, "", "1", (), (1,), [1], 0, -1, 5, 6, 10 ** 59):
            self.not_usable("many", tower, many)

    def test_levels(self):
        for many in (1, 2, 3, 4):
            book = tower(many)
            self.same(how_many_levels(book), many)
            self.same(how_many_rightful(book), 2 ** many)
            for pair in truth.pairs(book):
                storey, kind = divmod(pair[0], 3)
                expected = None
                if kind == 2 and pair[1] == 3 * storey:
                    expected = storey
                elif kind == 0 and pair[1] == 3 * storey + 5:
                    expected = storey + 1
                elif kind == 1 and pair[1] == 3 * storey - 3:
                    expected = storey
                self.same(level_of(book, pair), expected, pair)

    def test_lost_in_twice_as_many_moves(self):
        for many in (1, 2, 3, 4):
            book = tower(many)
            dealing = tuple(pair for i in range(0, 3 * many, 3) for pair in ((i, i + 1), (i + 1, i), (i + 2, i + 2)))
            # By G9 the moves are twice the level, for one seat each.
            self.same(rightful_level(book, dealing), many)
            if many < 3:
                self.same(truth.hearing(book)[dealing], (False, 2 * many))

    def test_beside(self):
        for one in (samples.FOUR, samples.ODD, samples.NARROW):
            both = samples.beside(one, samples.ODD)
            for dealing in truth.dealings(both):
                parts = [tuple(pair for pair in dealing if pair[0] < len(one[0]))]
                parts += [tuple((a - len(one[0]), b - len(one[1])) for a, b in dealing if a >= len(one[0]))]
                fine = not truth.claims(one, parts[0]) and not truth.claims(samples.ODD, parts[1])
                self.same(truth.claims(both, dealing) == (), fine)
