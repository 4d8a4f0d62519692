"""Points 74, 75 and 78: outcomes, bounds, winning answers and the table, held against a play backwards."""

from idleclaims.answers import winning_answer
from idleclaims.outcomes import bound_of, outcome_of, winning_level
from idleclaims.tables import longest, outcome_table
from tests import deepbooks, samples, truth, turnbooks
from tests.support import Case
from tests.test_naming import heard, nameable
from tests.test_rightful import tower_dealings

FOUR, STILL, BEST, SWAP = samples.FOUR, samples.STILL, samples.BEST, samples.SWAP


def walk(book):
    """The walk that turns each time along the turning with the least pupil."""
    found = [truth.top(book)]
    while truth.turnings(book, found[-1]):
        found.append(truth.turned(book, found[-1], truth.turnings(book, found[-1])[0]))
    return found


def level_and_answer(book, dealing):
    """The first level with a plain dealing that holds a pair that claims, and the first one on its walk."""
    claims = set(truth.claims(book, dealing))
    for level, left in enumerate(truth.ladder(book)):
        if any(claims.intersection(plain) for plain in truth.plains(left)):
            return level, [plain for plain in walk(left) if claims.intersection(plain)][0]
    return None, None


class OutcomesTest(Case):
    def test_examples(self):
        result = [outcome_of(FOUR, BEST), bound_of(FOUR, BEST), winning_level(FOUR, SWAP), bound_of(FOUR, SWAP)]
        self.same(result + [bound_of(FOUR, ())], ["lost", 2, 1, 3, 1])
        self.same([winning_answer(FOUR, SWAP), winning_answer(FOUR, BEST)], [BEST, None])

    def judged(self, book, dealing, won, moves):
        level, answer = level_and_answer(book, dealing)
        self.same(outcome_of(book, dealing), "won" if won else "lost")
        self.same(winning_level(book, dealing), level)
        self.same(winning_answer(book, dealing), answer)
        self.same(level is not None, won)
        if won:
            bound = 2 * level + 1
        else:
            bound = 2 * [t for t, left in enumerate(truth.ladder(book)) if dealing in truth.plains(left)][0]
        self.same(bound_of(book, dealing), bound)
        self.assertLessEqual(moves, bound)
        if max(book[2], default=1) == 1:
            self.assertEqual(moves, bound)
        return level

    def test_by_the_hearing(self):
        """Also G1 and G9."""
        levels = {}
        for book in deepbooks.books() + samples.tiny_books()[::4]:
            told = truth.hearing(book)
            long_ones = tuple(dealing for dealing, (_, moves) in told.items() if moves > 1)
            for dealing in truth.dealings(book)[::9] + long_ones:
                level = self.judged(book, dealing, *told[dealing])
                levels[level] = levels.get(level, 0) + 1
        for level in (None, 0, 1, 2):
            self.assertGreater(levels.get(level, 0), 5, levels)

    def test_answers(self):
        """A winning answer may be named, is lost, and its bound is less."""
        for book in samples.small_books()[::4] + deepbooks.DEEP:
            for dealing in truth.dealings(book)[::6]:
                answer = winning_answer(book, dealing)
                if answer is not None:
                    self.assertTrue(heard(book, dealing, answer))
                    self.same(outcome_of(book, answer), "lost")
                    self.assertLess(bound_of(book, answer), bound_of(book, dealing))

    def test_what_is_named_against_lost_ones(self):
        """It is won, and its bound is less."""
        for book in samples.small_books()[::4] + deepbooks.DEEP:
            for dealing in truth.rightfuls(book):
                for other in nameable(book, dealing)[::5]:
                    self.same(outcome_of(book, other), "won")
                    self.assertLess(bound_of(book, other), bound_of(book, dealing))

    def test_towers(self):
        for many in (1, 2, 3, 4):
            book, dealings = samples.tower(many), tower_dealings(many)
            self.same([bound_of(book, dealings[0]), bound_of(book, dealings[-1])], [2 * many, 0])
            self.same({outcome_of(book, dealing) for dealing in dealings}, {"lost"})
            self.same({winning_level(book, dealing) for dealing in dealings}, {None})
            self.same([outcome_of(book, ()), winning_level(book, ()), bound_of(book, ())], ["won", 0, 1])
            self.same(winning_answer(book, ()), tower_dealings(many)[-1])
        told = truth.hearing(samples.tower(2))
        for dealing in truth.dealings(samples.tower(2)):
            self.judged(samples.tower(2), dealing, *told[dealing])

    def test_an_odd_ring_and_books_side_by_side(self):
        for book in (samples.ODD, samples.beside(samples.ODD, samples.NARROW), samples.beside(samples.ODD, FOUR)):
            told = truth.hearing(book)
            for dealing in truth.dealings(book)[::3]:
                self.judged(book, dealing, *told[dealing])

    def test_answers_further_down_the_walk(self):
        found = 0
        for book in samples.small_books() + (samples.TWICE,):
            for dealing in truth.dealings(book)[::3]:
                level, answer = level_and_answer(book, dealing)
                if level is not None and answer != truth.top(truth.ladder(book)[level]):
                    self.same(winning_answer(book, dealing), answer)
                    found += 1
        self.assertGreater(found, 9)

    def test_turning_and_large_books(self):
        for book in turnbooks.TURNING + samples.large_books():
            answer = winning_answer(book, ())
            self.same([outcome_of(book, ()), winning_level(book, ()), bound_of(book, ())], ["won", 0, 1])
            self.same(answer, truth.asked_by_pupils(book, range(len(book[0])))[0])
            self.same([outcome_of(book, answer), bound_of(book, answer)], ["lost", 0])

    def test_nobody(self):
        for book in samples.EDGES[:4]:
            self.same([outcome_of(book, ()), winning_level(book, ()), bound_of(book, ())], ["lost", None, 0])
            self.same(winning_answer(book, ()), None)


class TablesTest(Case):
    def test_examples(self):
        table = ((False, 0), (True, 1), (False, 0), (True, 1), (True, 1), (True, 1), (True, 1))
        self.same([outcome_table(samples.ODD), longest(FOUR)], [table, 3])

    def test_all_dealings(self):
        for book in deepbooks.books() + samples.tiny_books()[::3]:
            told = truth.hearing(book)
            self.same(outcome_table(book), tuple(told[dealing] for dealing in truth.dealings(book)))
            self.same(longest(book), max(moves for _, moves in told.values()))

    def test_even_and_odd(self):
        for book in samples.small_books()[::2]:
            for won, moves in outcome_table(book):
                self.same(moves % 2 == 1, won)

    def test_the_longest_ones(self):
        self.same([longest(samples.tower(1)), longest(samples.tower(2))], [2, 4])
        self.same({longest(book) for book in deepbooks.DEEP}, {4, 6})

    def test_nobody(self):
        for book in samples.EDGES[:4]:
            self.same([outcome_table(book), longest(book)], [((False, 0),), 0])
