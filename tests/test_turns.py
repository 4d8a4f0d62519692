"""Points 66 and 67: turns and spans, held against all rightful dealings."""

from idleclaims.errors import NotIdle
from idleclaims.joining import down_from
from idleclaims.spans import silent_pairs, span_of, spans_of
from idleclaims.turns import ahead_of, dealing_by, done_in, turns_of
from tests import samples, truth, turnbooks
from tests.support import Case
from tests.test_bestunder import subsets

LINK = samples.LINK


def numbers_done(book, dealing):
    return tuple(k for k, dealings in enumerate(turnbooks.done(book)) if dealing in dealings)


class TurnsTest(Case):
    def test_example(self):
        self.same(turns_of(LINK), (((0, 1, 0), (1, 0, 1)), ((2, 3, 2), (3, 2, 3))))
        self.same(dealing_by(LINK, (1,)), ((0, 1), (1, 0), (2, 2), (3, 3), (4, 4)))

    def test_turns_of(self):
        for book in turnbooks.books() + samples.tiny_books()[::2]:
            expected = turnbooks.turns(book)
            self.same(turns_of(book), expected, book)
            # From each dealing of down_from to the next one.
            down = down_from(book, turnbooks.favourite(book, turnbooks.rightfuls(book)))
            for turn, here, there in zip(expected, down, down[1:]):
                self.same([(a, to) for a, _, to in turn], [pair for pair in there if pair not in here])
                self.same([(a, b) for a, b, _ in turn], [pair for pair in here if pair not in there])
            self.assertEqual(len(down), len(expected) + 1)

    def test_ahead_of(self):
        found = {True: 0, False: 0}
        for book in turnbooks.books():
            for turn, expected in enumerate(turnbooks.ahead(book)):
                self.same(ahead_of(book, turn), expected)
                found[expected == ()] += 1
        self.assertGreater(min(found.values()), 40)

    def test_done_in(self):
        for book in turnbooks.books():
            for dealing in turnbooks.rightfuls(book):
                self.same(done_in(book, dealing), numbers_done(book, dealing))

    def test_not_rightful(self):
        for book in samples.small_books()[::5]:
            for dealing in truth.dealings(book)[::3]:
                if dealing not in truth.rightfuls(book):
                    self.not_usable("dealing", done_in, book, dealing)

    def test_dealing_by(self):
        """The rightful dealings are those of the sets that have with each turn all ahead of it."""
        closed = {True: 0, False: 0}
        for book in turnbooks.books():
            left = {numbers_done(book, dealing): dealing for dealing in turnbooks.rightfuls(book)}
            self.assertEqual(len(left), len(turnbooks.rightfuls(book)))
            self.same(dealing_by(book, ()), turnbooks.favourite(book, turnbooks.rightfuls(book)))
            for turns in subsets(range(len(turnbooks.turns(book)))):
                fine = all(other in turns for turn in turns for other in turnbooks.ahead(book)[turn])
                closed[fine] += 1
                if fine:
                    self.same(dealing_by(book, turns), left.pop(turns))
                else:
                    self.not_usable("turns", dealing_by, book, turns)
            self.same(left, {})
        self.assertGreater(min(closed.values()), 99)

    def test_a_turn_without_one_that_is_ahead(self):
        # Pupils 0 and 1 exchange, then pupils 0 and 2.
        book = (((0, 1, 2), (1, 0), (2, 1)), ((1, 0), (2, 0, 1), (0, 2)), (1, 1, 1))
        self.same(turns_of(book), (((0, 0, 1), (1, 1, 0)), ((0, 1, 2), (2, 2, 1))))
        self.same([ahead_of(book, 0), ahead_of(book, 1)], [(), (0,)])
        self.not_usable("turns", dealing_by, book, (1,))
        self.same(dealing_by(book, (0, 1)), ((0, 2), (1, 0), (2, 1)))
        for other in turnbooks.TURNING:
            for turn, others in enumerate(turnbooks.ahead(other)):
                if others:
                    self.not_usable("turns", dealing_by, other, (turn,))
                    self.not_usable("turns", dealing_by, other, tuple(sorted(others[1:] + (turn,))))

    def test_a_school_that_holds_several(self):
        two = samples.TWO
        self.same(turns_of(two), (((0, 1, 0), (2, 0, 1)),))
        self.same([ahead_of(two, 0), done_in(two, samples.ABOVE), done_in(two, samples.BELOW)], [(), (), (0,)])
        self.same([dealing_by(two, ()), dealing_by(two, turns=(0,))], [samples.ABOVE, samples.BELOW])

    def test_large_books(self):
        six_odd, tower = samples.large_books()[1], samples.large_books()[0]
        turns = tuple(((2 * k, 2 * k + 1, 2 * k), (2 * k + 1, 2 * k, 2 * k + 1)) for k in range(6))
        self.same(turns_of(six_odd), turns)
        self.same([ahead_of(six_odd, k) for k in range(6)], [()] * 6)
        self.same(len({dealing_by(six_odd, some) for some in subsets(range(6))}), 64)
        self.same(len(turns_of(tower)), 4)
        for book in samples.large_books():
            many = len(turns_of(book))
            for k in range(many):
                done = tuple(sorted(ahead_of(book, k) + (k,)))
                self.same(done_in(book, dealing_by(book, done)), done)
            self.not_usable("turn", ahead_of, book, many)

    def test_one_rightful_dealing(self):
        for book in samples.EDGES[:4] + (samples.NARROW,):
            best = truth.top(book)
            self.same([turns_of(book), done_in(book, best), dealing_by(book, ())], [(), (), best])
            for turn in (0, -1, 1, None):
                self.not_usable("turn", ahead_of, book, turn)
                self.not_usable("turns", dealing_by, book, (turn,))


class SpansTest(Case):
    def test_example(self):
        self.same(spans_of(LINK), (((0, 2), 0, 1), ((4, 0), -1, 0)))
        self.same([silent_pairs(samples.FOUR), silent_pairs(LINK)], [((0, 2), (2, 0)), ()])

    def expected(self, book, pair):
        """Opens and closes by the words of the document, by the rightful dealings in which both want."""
        rightful, done = turnbooks.rightfuls(book), list(turnbooks.done(book))
        best = turnbooks.favourite(book, rightful)
        wants = frozenset(m for m in rightful if truth.pupil_wants(book, m, pair))
        wanted = frozenset(m for m in rightful if truth.school_wants(book, m, pair))
        opens = -1 if best in wants else done.index(wants) if wants else len(done)
        unwanted = frozenset(rightful) - wanted
        closes = -1 if best in unwanted else done.index(unwanted) if unwanted else len(done)
        return opens, closes

    def test_all_idle_pairs(self):
        found = {}
        for book in turnbooks.books() + samples.tiny_books()[::2]:
            expected = {pair: self.expected(book, pair) for pair in turnbooks.idle_pairs(book)}
            many = len(turnbooks.turns(book))
            for pair, span in expected.items():
                self.same(span_of(book, pair), span, (book, pair))
                key = tuple("turn" if 0 <= k < many else k >= many for k in span)
                found[key] = found.get(key, 0) + 1
            self.same(spans_of(book), tuple((pair, *span) for pair, span in expected.items()))
            for pair in turnbooks.rightful_pairs(book):
                self.refuses(NotIdle, {"pair": pair}, span_of, book, pair)
        # What is always open is closed somewhere: nothing claims against the pupils' dealing.
        self.assertEqual(len(found), 8)
        self.assertNotIn((False, True), found)
        for key, times in found.items():
            self.assertGreater(times, 5, key)

    def test_claims_by_spans(self):
        """A pair claims exactly where opens is done and closes is not; also G8."""
        for book in turnbooks.books():
            many = len(turns_of(book))
            for dealing in turnbooks.rightfuls(book):
                done = (-1,) + done_in(book, dealing)
                claims = tuple(pair for pair, opens, closes in spans_of(book) if opens in done and closes not in done)
                self.same(claims, truth.claims(book, dealing))
                self.assertNotIn(many, done)

    def test_silent_pairs(self):
        found = {True: 0, False: 0}
        for book in turnbooks.books() + samples.tiny_books()[::2]:
            loud = {pair for dealing in turnbooks.rightfuls(book) for pair in truth.claims(book, dealing)}
            silent = tuple(pair for pair in turnbooks.idle_pairs(book) if pair not in loud)
            self.same(silent_pairs(book), silent)
            found[True] += len(silent)
            found[False] += len(loud)
        self.assertGreater(min(found.values()), 99)

    def test_silent_between_turns(self):
        """Some pairs are silent though a turn opens and a turn closes, others are not."""
        found = {True: 0, False: 0}
        for book in turnbooks.TURNING:
            many = len(turns_of(book))
            for pair, opens, closes in spans_of(book):
                if 0 <= opens < many and 0 <= closes < many:
                    found[pair in silent_pairs(book)] += 1
        self.assertGreater(min(found.values()), 3)

    def test_large_books(self):
        for book in samples.large_books():
            walk = down_from(book, dealing_by(book, ()))
            for pair, opens, closes in spans_of(book):
                for k, dealing in enumerate(walk):
                    self.same(truth.pupil_wants(book, dealing, pair), opens < k)
                    self.same(truth.school_wants(book, dealing, pair), closes >= k)

    def test_no_idle_pairs(self):
        for book in samples.EDGES[:4] + (samples.ODD, samples.TWO):
            self.same([spans_of(book), silent_pairs(book)], [(), ()])
        # One rightful dealing: no turns.
        self.same(spans_of(samples.NARROW), (((0, 1), 0, 0), ((1, 0), -1, -1)))
        self.same(silent_pairs(samples.NARROW), ((0, 1), (1, 0)))
        # A school that is never full wants always; a pupil without a place, too.
        self.same(span_of(samples.WIDE, (0, 1)), self.expected(samples.WIDE, (0, 1)))
