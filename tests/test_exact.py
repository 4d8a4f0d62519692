"""Points 76, 77 and 80: exact moves, hearings played out, and moves of books side by side."""

from random import Random

from idleclaims.answers import winning_answer
from idleclaims.errors import Crowded, NotUsable
from idleclaims.exact import best_answer, long_answer, moves_of
from idleclaims.outcomes import bound_of
from idleclaims.playing import answered, played_out
from idleclaims.sides import side_moves
from tests import deepbooks, samples, truth
from tests.support import Case, no_books, no_dealings
from tests.test_naming import heard, nameable
from tests.test_rightful import tower_dealings

FOUR, STILL, BEST, SWAP = samples.FOUR, samples.STILL, samples.BEST, samples.SWAP
THREE = ((3, 0),)


def some_dealings(book):
    """Some of the dealings, among them all with more than one move."""
    told = truth.hearing(book)
    return truth.dealings(book)[::6] + tuple(dealing for dealing, (_, moves) in told.items() if moves > 1)


class ExactTest(Case):
    def test_example(self):
        result = [moves_of(FOUR, BEST), moves_of(FOUR, long_answer(FOUR, BEST)), best_answer(FOUR, STILL)]
        self.same(result, [2, 1, None])

    def judged(self, book, dealing, answer):
        """The answer may be named and has one move less, by a play backwards."""
        told = truth.hearing(book)
        self.assertIn(answer, told)
        self.assertTrue(heard(book, dealing, answer), (book, dealing, answer))
        self.same(told[answer][1], told[dealing][1] - 1)

    def test_by_the_hearing(self):
        found = {}
        for book in deepbooks.with_one_seat():
            told = truth.hearing(book)
            for dealing in some_dealings(book):
                won, moves = told[dealing]
                self.same(moves_of(book, dealing), moves)
                best, long = best_answer(book, dealing), long_answer(book, dealing)
                if moves == 0:
                    self.same([best, long], [None, None])
                    continue
                self.judged(book, dealing, best)
                if won:
                    self.same(long, None)
                else:
                    self.judged(book, dealing, long)
                found[moves] = found.get(moves, 0) + 1
        self.assertEqual(set(found), {1, 2, 3, 4, 5, 6})

    def test_towers(self):
        """The numbers of point 16."""
        for many in (1, 2, 3, 4):
            book, dealings = samples.tower(many), tower_dealings(many)
            self.same([moves_of(book, dealings[0]), moves_of(book, dealings[-1])], [2 * many, 0])
            for dealing in dealings[:-1]:
                answer = long_answer(book, dealing)
                self.assertTrue(truth.is_dealing(book, answer))
                self.assertTrue(heard(book, dealing, answer))
                self.same(moves_of(book, answer), moves_of(book, dealing) - 1)

    def test_one_seat_each(self):
        crowded = (((0, 1),), ((0,), (0,)), (1, 10 ** 29))
        for call in (moves_of, long_answer, best_answer, played_out):
            self.refuses(Crowded, {"school": 0}, call, samples.TWO, None)
            self.refuses(Crowded, {"school": 0}, call, samples.TWO, ())
            self.refuses(Crowded, {"school": 1}, call, crowded, [])

    def test_nobody(self):
        for book in (samples.NOBODY, samples.NO_SCHOOLS, (((),), ((),), (1,))):
            self.same([moves_of(book, ()), long_answer(book, ()), best_answer(book, ())], [0, None, None])
            self.same(played_out(book, ()), ((),))


class PlayedOutTest(Case):
    def test_example(self):
        self.same(len(played_out(FOUR, SWAP)), 4)

    def judged(self, book, dealing, moves):
        hearing = played_out(book, dealing)
        self.assertIs(type(hearing), tuple)
        self.assertEqual(len(hearing), moves + 1)
        self.same(hearing[0], dealing)
        for here, there in zip(hearing, hearing[1:]):
            self.assertTrue(truth.is_dealing(book, there))
            self.assertTrue(heard(book, here, there))
            self.same(moves_of(book, there), moves_of(book, here) - 1)
        self.same(truth.claims(book, hearing[-1]), ())
        return hearing

    def test_by_the_hearing(self):
        for book in deepbooks.with_one_seat():
            told = truth.hearing(book)
            for dealing in some_dealings(book)[::3]:
                for k, there in enumerate(self.judged(book, dealing, told[dealing][1])):
                    self.same(told[there][1], told[dealing][1] - k)

    def test_towers(self):
        for many in (1, 2, 3, 4):
            for dealing in tower_dealings(many):
                self.judged(samples.tower(many), dealing, moves_of(samples.tower(many), dealing))
            self.same(len(played_out(samples.tower(many), tower_dealings(many)[0])), 2 * many + 1)
            self.judged(samples.tower(many), (), 1)


class AnsweredTest(Case):
    def test_examples(self):
        self.same(answered(FOUR, SWAP, (THREE, 5)), (SWAP, BEST, THREE, STILL))
        self.not_usable("named", answered, FOUR, SWAP, (STILL,))

    def played(self, book, dealing, losers):
        """The hearing by the words of the document; losers gives what the loser names, None at the end."""
        hearing = [dealing, winning_answer(book, dealing)]
        for other in losers:
            hearing += [other, winning_answer(book, other)]
        return tuple(hearing)

    def test_losers_that_play_by_chance(self):
        random = Random(90)
        lengths = {}
        for book in samples.small_books()[::2] + deepbooks.DEEP + (samples.tower(2),):
            told = truth.hearing(book)
            won = [dealing for dealing in told if told[dealing][1] % 2]
            for dealing in random.sample(won, min(3, len(won))) + [m for m in won if told[m][1] > 1] * 3:
                losers, here = [], winning_answer(book, dealing)
                while nameable(book, here):
                    losers.append(self.named_by_chance(book, here, random))
                    here = winning_answer(book, losers[-1])
                for k in (0, len(losers) // 2, len(losers)):
                    hearing = answered(book, dealing, tuple(losers[:k]))
                    self.same(hearing, self.played(book, dealing, losers[:k]))
                    self.assertLessEqual(len(hearing) - 1, bound_of(book, dealing))
                # Values left when nothing may be named are not looked at.
                for more in (None, dealing):
                    self.same(answered(book, dealing, tuple(losers) + (more,)), self.played(book, dealing, losers))
                if random.random() < 0.5:
                    self.wrong_namings(book, dealing, losers)
                lengths[len(losers)] = lengths.get(len(losers), 0) + 1
        for length in (0, 1, 2):
            self.assertGreater(lengths.get(length, 0), 5, lengths)

    def named_by_chance(self, book, here, random):
        """What may be named, mostly what lasts as long as it can."""
        told, free = truth.hearing(book), nameable(book, here)
        most = max(told[m][1] for m in free)
        return random.choice([m for m in free if told[m][1] == most] if random.random() < 0.8 else free)

    def wrong_namings(self, book, dealing, losers):
        for k in range(len(losers)):
            here = self.played(book, dealing, losers[:k])[-1]
            barred = [m for m in truth.dealings(book) if not heard(book, here, m)][:2]
            for wrong in [None, 5, list(losers[k]), (losers[k],)] + barred:
                self.not_usable("named", answered, book, dealing, tuple(losers[:k]) + (wrong,) + tuple(losers[k:]))

    def test_no_values(self):
        for book in deepbooks.books()[::3]:
            told = truth.hearing(book)
            for dealing in [m for m in told if told[m][0]][:5]:
                self.same(answered(book=book, dealing=dealing, named=()), (dealing, winning_answer(book, dealing)))

    def test_no_dealings_are_named(self):
        for value in no_dealings(FOUR):
            self.not_usable("named", answered, FOUR, SWAP, (value,))
            # Nothing may be named against STILL.
            self.same(answered(FOUR, (), (value,)), ((), STILL))
        for named in (None, 0, True, "", "ab", [], [THREE], {}):
            self.not_usable("named", answered, FOUR, SWAP, named)
            self.not_usable("named", answered, FOUR, (), named)

    def test_lost_dealings(self):
        for dealing in truth.rightfuls(FOUR):
            self.not_usable("dealing", answered, FOUR, dealing, ())
            self.not_usable("dealing", answered, FOUR, dealing, None)
        for book in samples.EDGES[:4]:
            self.not_usable("dealing", answered, book, (), ())


class SidesTest(Case):
    def test_example(self):
        self.same([side_moves(FOUR, FOUR, BEST, SWAP), side_moves(FOUR, samples.ODD, SWAP, ())], [3, 1])

    def put(self, book, one, two):
        return one + tuple((a + len(book[0]), b + len(book[1])) for a, b in two)

    def test_by_the_hearing(self):
        """Also G10."""
        pairs = [(FOUR, samples.ODD), (samples.ODD, samples.tower(1)), (samples.SIDES, samples.NARROW)]
        pairs += [(samples.NARROW, samples.NOBODY), (samples.ODD, samples.ODD), (samples.tower(1), samples.tower(1))]
        random = Random(91)
        for book, other in pairs:
            told = truth.hearing(samples.beside(book, other))
            for one in truth.dealings(book):
                two = truth.dealings(other)
                for two in truth.rightfuls(other) + tuple(random.sample(two, min(4, len(two)))):
                    self.same(side_moves(book, other, one, two), told[self.put(book, one, two)][1])

    def test_both_lost_or_won(self):
        found = set()
        books = deepbooks.DEEP[:8] + (FOUR, samples.SIDES, samples.tower(2))
        for book in books:
            for other in books[::3]:
                for one in some_dealings(book)[::7]:
                    won, moves = truth.hearing(book)[one]
                    for two in some_dealings(other)[::9] + truth.rightfuls(other)[:1]:
                        other_won, other_moves = truth.hearing(other)[two]
                        wins = [many for fine, many in ((won, moves), (other_won, other_moves)) if fine]
                        expected = min(wins) if wins else max(moves, other_moves)
                        found.add((won, other_won))
                        self.same(side_moves(book=book, other=other, dealing=one, beside=two), expected)
        self.assertEqual(len(found), 4)

    def test_large_books(self):
        tower, dealings = samples.tower(4), tower_dealings(4)
        self.same(side_moves(tower, tower, dealings[0], dealings[-1]), 8)
        self.same([side_moves(tower, FOUR, dealings[0], SWAP), side_moves(FOUR, tower, BEST, ())], [3, 1])

    def test_errors_in_sequence(self):
        two = samples.TWO
        crowded = (((0, 1),), ((0,), (0,)), (1, 2))
        self.refuses(Crowded, {"school": 0}, side_moves, two, None, None, None)
        self.refuses(Crowded, {"school": 0}, side_moves, two, crowded, (), ())
        for thing in no_books():
            self.not_usable("other", side_moves, FOUR, thing, None, None)
        # The school's number in the second book.
        self.refuses(Crowded, {"school": 1}, side_moves, FOUR, crowded, None, None)
        self.refuses(Crowded, {"school": 1}, side_moves, samples.NOBODY, crowded, (), ())
        for thing in no_dealings(FOUR):
            self.not_usable("dealing", side_moves, FOUR, samples.ODD, thing, None)
        for thing in no_dealings(samples.ODD):
            self.not_usable("beside", side_moves, FOUR, samples.ODD, BEST, thing)
        # beside is a dealing of the second book, not counted on.
        self.refuses(NotUsable, {"word": "beside", "at": -1}, side_moves, FOUR, samples.ODD, BEST, ((4, 4),))
