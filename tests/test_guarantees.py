"""Point 11 on small books: G1 to G3 and G5 to G10, the hearing being played out in the tests.

G4 stands in test_exchange, G11 beside the checkers of papers.
"""

from itertools import product
from random import Random

from idleclaims.best import best_deal, worst_deal
from idleclaims.bestunder import best_under
from idleclaims.comparedbooks import same_rightful
from idleclaims.comparing import at_least, betters
from idleclaims.ladder import ladder_of, level_of
from idleclaims.lastbook import idle_pairs, last_book, rightful_pairs
from idleclaims.loose import is_loose, loose_by_all, told_pairs
from idleclaims.pairkinds import kinds_of
from idleclaims.reasons import struck_cold
from idleclaims.rightful import all_rightful
from idleclaims.turning import turned, turnings_at
from idleclaims.walks import all_plain, walk_of
from tests import samples, truth
from tests.support import Case
from tests.test_bestunder import subsets, waivers
from tests.test_walks import walks


class HearingTest(Case):
    def test_g1_exactly_one_set(self):
        for book in samples.tiny_books():
            dealings = truth.dealings(book)
            number = {pair: 1 << k for k, pair in enumerate(truth.pairs(book))}
            has = [sum(number[pair] for pair in m) for m in dealings]
            against = [sum(number[pair] for pair in truth.claims(book, m)) for m in dealings]
            found = []
            for chosen in product((False, True), repeat=len(dealings)):
                pairs = 0
                for k in range(len(dealings)):
                    pairs |= has[k] if chosen[k] else 0
                if all(chosen[k] == (not pairs & against[k]) for k in range(len(dealings))):
                    found.append(tuple(m for m, fine in zip(dealings, chosen) if fine))
            self.same(found, [all_rightful(book)])

    def test_g1_small_books(self):
        for book in samples.small_books():
            rightful = set(all_rightful(book))
            pairs = {pair for dealing in rightful for pair in dealing}
            for dealing in truth.dealings(book):
                self.assertEqual(dealing in rightful, not pairs.intersection(truth.claims(book, dealing)))

    def test_g9_moves(self):
        for book in samples.small_books()[::2]:
            plain_at = [set(truth.plains(left)) for left in ladder_of(book)]
            for dealing, (won, moves) in truth.hearing(book).items():
                if won:
                    claims = set(truth.claims(book, dealing))
                    levels = [t for t, plains in enumerate(plain_at) if any(claims.intersection(m) for m in plains)]
                else:
                    levels = [t for t, plains in enumerate(plain_at) if dealing in plains]
                self.assertLessEqual(moves, 2 * levels[0] + won)
                if max(book[2], default=1) == 1:
                    self.assertEqual(moves, 2 * levels[0] + won)


class KindsTest(Case):
    def test_g3_exactly_one_kind(self):
        for book in samples.small_books() + samples.tiny_books()[::3]:
            kinds = dict(zip(("plain", "rise", "fall", "cold"), kinds_of(book)))
            self.same(sorted(pair for pairs in kinds.values() for pair in pairs), list(truth.pairs(book)))
            self.same(kinds["rise"], truth.rises(book, truth.top(book)))
            self.same(kinds["fall"], truth.falls(book, truth.bottom(book)))

    def test_g3_any_one_walk(self):
        for book in samples.small_books():
            kinds = kinds_of(book)
            for walk in walks(book, truth.top(book))[:6]:
                self.assertEqual({pair for dealing in walk for pair in dealing}, set(kinds[0]))
                self.assertEqual({pair for dealing in walk for pair in struck_cold(book, dealing)}, set(kinds[3]))


class LastBookTest(Case):
    def test_g2_any_order_of_loose_pairs(self):
        random = Random(21)
        for book in samples.small_books()[::2]:
            left = book
            while loose_by_all(left):
                loose = loose_by_all(left)
                left = truth.struck(left, random.sample(loose, random.randint(1, len(loose))))
            self.same(left, last_book(book))

    def test_g2_what_the_last_book_has(self):
        for book in samples.small_books():
            left = last_book(book)
            self.same(truth.pairs(left), truth.rightful_pairs(book))
            self.same(all_plain(left), truth.rightfuls(book))
            self.same(truth.asked_by_pupils(left, range(len(left[0])))[1], ())
            self.same(truth.asked_by_schools(left, range(len(left[1])))[1], ())

    def test_g2_shorter_books(self):
        for book in samples.tiny_books()[::2] + samples.small_books()[10:40]:
            rightful = set(rightful_pairs(book))
            for gone in subsets(truth.pairs(book))[:64]:
                shorter = truth.struck(book, gone)
                self.same(same_rightful(book, shorter), not rightful.intersection(gone), (book, gone))

    def test_g5_told_and_loose(self):
        for book in samples.small_books():
            told, loose = set(told_pairs(book)), set(loose_by_all(book))
            self.assertTrue(told <= loose)
            kinds = {pair: truth.kind(book, pair) for pair in truth.pairs(book)}
            if any(kind != "plain" for kind in kinds.values()):
                self.assertTrue(told)
            for pair, kind in kinds.items():
                if kind in ("rise", "cold"):
                    self.assertEqual(pair in loose, pair in told)
                if max(book[2], default=1) == 1:
                    self.assertEqual(is_loose(book, pair), pair in loose)
                self.loose_by_one(book, pair, kind, pair in loose)

    def loose_by_one(self, book, pair, kind, loose):
        """One plain dealing claims against all dealings that have a loose pair."""
        plains = {"rise": [truth.top(book)], "fall": [truth.bottom(book)], "plain": truth.plains(book)}.get(kind)
        if plains is None:
            plains = [m for m in truth.plains(book) if truth.is_cold(book, m, pair)]
        having = [m for m in truth.dealings(book) if pair in m]
        for plain in plains:
            self.assertEqual(loose, all(set(plain).intersection(truth.claims(book, m)) for m in having))


class BestTest(Case):
    def test_g6_best(self):
        for book in samples.small_books():
            best = best_deal(book)
            self.assertIn(best, truth.rightfuls(book))
            first = tuple((a, wish[0]) for a, wish in enumerate(last_book(book)[0]) if wish)
            self.same(best, first)
            self.assertTrue(all(at_least(book, best, m) for m in truth.rightfuls(book)))

    def test_g6_alone(self):
        for book in samples.small_books()[::4]:
            rightful = set(truth.rightful_pairs(book))
            found = []
            for dealing in truth.dealings(book):
                if not rightful.intersection(truth.claims(book, dealing)):
                    if not any(betters(book, m, dealing) for m in truth.dealings(book)):
                        found.append(dealing)
            self.same(found, [best_deal(book)])

    def test_g6_plain_and_best(self):
        for book in samples.small_books():
            for plain in truth.plains(book):
                arrows = truth.rise_arrows(book, plain)
                heights = truth.told_heights(len(book[1]), arrows)
                no_ring = all(heights[start] < heights[end] for start, end in arrows)
                self.assertEqual(plain == best_deal(book), no_ring)

    def test_g7_same_places(self):
        for book in samples.small_books():
            rightful = all_rightful(book)
            best = best_deal(book)
            for dealing in rightful:
                self.same([a for a, _ in dealing], [a for a, _ in best])
                for school, many in enumerate(book[2]):
                    held = truth.held(best, school)
                    self.same(len(truth.held(dealing, school)), len(held))
                    if len(held) < many:
                        self.same(sorted(truth.held(dealing, school)), sorted(held))

    def test_g7_better_and_worse_places(self):
        for book in samples.small_books():
            rightful = set(all_rightful(book))
            for one in rightful:
                for two in rightful:
                    both = [sorted([b, truth.place(two, a)], key=book[0][a].index) for a, b in one]
                    self.assertIn(tuple((a, best) for (a, _), (best, _) in zip(one, both)), rightful)
                    self.assertIn(tuple((a, worst) for (a, _), (_, worst) in zip(one, both)), rightful)

    def test_g7_turnings_lead_to_each(self):
        for book in samples.small_books():
            left = last_book(book)
            found, waiting = set(), [best_deal(book)]
            while waiting:
                here = waiting.pop()
                found.add(here)
                waiting += [turned(left, here, turning) for turning in turnings_at(left, here)]
            self.assertEqual(found, set(truth.rightfuls(book)))
            self.assertIn(worst_deal(book), found)


class WaiverTest(Case):
    def test_g8_allowed(self):
        random = Random(22)
        for book in samples.small_books():
            for waived in waivers(book, random):
                allowed = {m for m in truth.dealings(book) if set(truth.claims(book, m)) <= set(waived)}
                self.assertEqual(allowed, set(truth.plains(truth.struck(book, waived))))
                self.assertTrue(allowed <= set(all_rightful(book)))

    def test_g8_more_waived(self):
        random = Random(23)
        for book in samples.small_books():
            for waived in waivers(book, random):
                for more in waivers(book, random):
                    if set(waived) <= set(more):
                        self.assertTrue(at_least(book, best_under(book, more), best_under(book, waived)))

    def test_g8_hearing(self):
        random = Random(24)
        for book in samples.small_books()[::2]:
            plain_hearing = truth.hearing(book)
            rightful = set(all_rightful(book))
            for waived in waivers(book, random, 1):
                for dealing, (won, moves) in truth.hearing(book, waived).items():
                    self.assertEqual(won, plain_hearing[dealing][0])
                    self.assertLessEqual(moves, plain_hearing[dealing][1])
                    self.assertEqual(won, dealing not in rightful)

    def test_g8_openings_and_closings(self):
        for book in samples.small_books():
            rightful = all_rightful(book)
            done = self.turns_done(book, rightful)
            done += [frozenset(rightful), frozenset()]
            for pair in idle_pairs(book):
                against = frozenset(m for m in rightful if pair in truth.claims(book, m))
                self.assertTrue(any(opening - closing == against for opening in done for closing in done))

    def turns_done(self, book, rightful):
        """For each turn of the last book the rightful dealings in which it is done."""
        found = []
        walk = walk_of(last_book(book))
        for here, there in zip(walk, walk[1:]):
            moves = [pair for pair in there if pair not in here]
            fine = [m for m in rightful if all(not truth.likes(book[0][a], truth.place(m, a), b) for a, b in moves)]
            found.append(frozenset(fine))
        return found

    def test_g8_prices(self):
        random = Random(25)
        books = [book for book in samples.small_books() if 1 <= len(idle_pairs(book)) <= 4]
        for book in [samples.LINK, samples.FOUR] + books:
            for _ in range(2):
                prices = {pair: random.randint(0, 3) for pair in idle_pairs(book)}
                pairs = rightful_pairs(book)
                demands = random.sample(pairs, min(len(pairs), random.randint(0, 2)))
                self.priced(book, prices, demands)

    def priced(self, book, prices, demands):
        def meets(dealing):
            places = dict(dealing)
            return all(a in places and not truth.likes(book[0][a], b, places[a]) for a, b in demands)

        claimed = [[p for p in truth.claims(book, m)] for m in all_rightful(book) if meets(m)]
        if not claimed:
            return
        least = min(sum(prices[pair] for pair in claims) for claims in claimed)
        fine = [waived for waived in subsets(idle_pairs(book)) if meets(best_under(book, waived))]
        self.assertEqual(min(sum(prices[pair] for pair in waived) for waived in fine), least)
        blocks = [block for block in subsets(idle_pairs(book)) if all(set(block).intersection(c) for c in claimed)]
        self.assertEqual(packed(blocks, prices), least)


def packed(blocks, prices):
    """The greatest total of numbers on blocks with no pair in blocks of more than its price together."""
    least = [block for block in blocks if not any(set(other) < set(block) for other in blocks)]
    found = {}

    def most(left):
        if left not in found:
            now = dict(left)
            found[left] = 0
            for block in least:
                if block and all(now[pair] > 0 for pair in block):
                    rest = {pair: price - (pair in block) for pair, price in now.items()}
                    found[left] = max(found[left], 1 + most(tuple(sorted(rest.items()))))
        return found[left]

    return most(tuple(sorted(prices.items())))


class KeepingTest(Case):
    def test_g10_idle_pairs_moved_back(self):
        random = Random(26)
        for book in samples.small_books():
            wishes = [list(wish) for wish in book[0]]
            for pair in idle_pairs(book):
                pupil, school = pair
                at = wishes[pupil].index(school)
                wishes[pupil].remove(school)
                wishes[pupil].insert(random.randint(at, len(wishes[pupil])), school)
            moved = (tuple(map(tuple, wishes)), book[1], book[2])
            self.same(last_book(moved), last_book(book))
            self.same(best_deal(moved), best_deal(book))
            self.same(same_rightful(book, moved), True)

    def test_g10_seats(self):
        for book in samples.small_books():
            best = best_deal(book)
            for school, many in enumerate(book[2]):
                held = len(truth.held(best, school))
                if held < many:
                    for other in (held + 1, many + 1, 10 ** 29):
                        seats = book[2][:school] + (other,) + book[2][school + 1:]
                        changed = (book[0], book[1], seats)
                        self.same(all_plain(changed), all_plain(book))
                        self.same(all_rightful(changed), all_rightful(book))
                        for pair in truth.pairs(book):
                            self.same(level_of(changed, pair), level_of(book, pair))

    def test_g10_side_by_side(self):
        books = [samples.FOUR, samples.TWO, samples.SIDES, samples.ODD, samples.NARROW, samples.LINK]
        for book in books:
            for other in books:
                both = samples.beside(book, other)
                on = [tuple((a + len(book[0]), b + len(book[1])) for a, b in m) for m in truth.rightfuls(other)]
                put = {one + two for one in truth.rightfuls(book) for two in on}
                self.assertEqual(set(all_rightful(both)), put)

    def test_g10_moves_side_by_side(self):
        for book, other in ((samples.FOUR, samples.ODD), (samples.ODD, samples.TWO), (samples.ODD, samples.NARROW)):
            told = truth.hearing(samples.beside(book, other))
            for one, (won, moves) in truth.hearing(book).items():
                for two, (other_won, other_moves) in truth.hearing(other).items():
                    on = tuple((a + len(book[0]), b + len(book[1])) for a, b in two)
                    wins = [n for fine, n in ((won, moves), (other_won, other_moves)) if fine]
                    expected = (True, min(wins)) if wins else (False, max(moves, other_moves))
                    self.assertEqual(told[one + on], expected)
