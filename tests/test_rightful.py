"""Point 53: the rightful dealings."""

from itertools import product

from idleclaims.rightful import all_rightful, how_many_rightful, is_rightful, rightful_level, rightful_with
from tests import samples, truth
from tests.support import Case


def tower_dealings(many):
    """The rightful dealings of a tower: at each storey p and r have B and A, or A and B."""
    found = []
    for ways in product((0, 1), repeat=many):
        dealing = []
        for i, way in enumerate(ways):
            first, second = (3 * i, 3 * i + 1) if way else (3 * i + 1, 3 * i)
            dealing += [(3 * i, first), (3 * i + 1, second), (3 * i + 2, 3 * i + 2)]
        found.append(tuple(dealing))
    return tuple(found)


class RightfulTest(Case):
    def test_examples(self):
        four, still, best = samples.FOUR, samples.STILL, samples.BEST
        self.same([rightful_level(four, still), rightful_level(four, best), rightful_level(four, ())], [0, 1, None])
        self.same(all_rightful(four), (best, still))
        self.same([is_rightful(four, best), is_rightful(four, samples.SWAP)], [True, False])

    def test_by_the_hearing(self):
        for book in samples.small_books() + samples.tiny_books():
            for dealing in truth.dealings(book)[::4] + truth.rightfuls(book):
                self.same(is_rightful(book, dealing), not truth.hearing(book)[dealing][0], (book, dealing))
            self.same(all_rightful(book), truth.rightfuls(book))
            self.same(how_many_rightful(book), len(truth.rightfuls(book)))

    def test_levels(self):
        for book in samples.small_books() + samples.tiny_books():
            ladder = truth.ladder(book)
            for dealing in truth.dealings(book)[::6] + truth.rightfuls(book):
                levels = [k for k, left in enumerate(ladder) if dealing in truth.plains(left)]
                self.same(rightful_level(book, dealing), levels[0] if levels else None)

    def test_moves_are_bounded_by_the_level(self):
        for book in samples.small_books():
            for dealing in truth.rightfuls(book):
                moves, level = truth.hearing(book)[dealing][1], rightful_level(book, dealing)
                self.assertLessEqual(moves, 2 * level)
                if max(book[2], default=1) == 1:
                    self.assertEqual(moves, 2 * level)

    def test_rightful_with(self):
        for book in samples.small_books() + samples.tiny_books():
            for pair in truth.pairs(book):
                result = rightful_with(book, pair)
                if pair in truth.idle_pairs(book):
                    self.same(result, None)
                else:
                    self.assertIs(type(result), tuple)
                    self.assertIn(pair, result)
                    self.assertIn(result, truth.rightfuls(book))

    def test_rightful_pairs_claim_against_all_others(self):
        for book in samples.small_books()[::2]:
            rightful = set(truth.rightful_pairs(book))
            for dealing in truth.dealings(book)[1::6]:
                claimed = bool(rightful.intersection(truth.claims(book, dealing)))
                self.same(is_rightful(book, dealing), not claimed)

    def test_towers(self):
        for many in (1, 2, 3, 4):
            book = samples.tower(many)
            found = tower_dealings(many)
            self.same(all_rightful(book), found)
            self.same(how_many_rightful(book), 2 ** many)
            self.same(rightful_level(book, found[0]), many)
            self.same(rightful_level(book, found[-1]), 0)
            self.same(is_rightful(book, found[1]), True)
            self.same(is_rightful(book, found[1][1:]), False)
            for pair in truth.pairs(book):
                having = [dealing for dealing in found if pair in dealing]
                self.assertIn(rightful_with(book, pair), having or [None])

    def test_moves_in_towers(self):
        for many in (1, 2):
            book = samples.tower(many)
            self.assertEqual(truth.hearing(book)[tower_dealings(many)[0]], (False, 2 * many))
            self.same(rightful_level(book, tower_dealings(many)[0]), many)

    def test_sixty_four(self):
        book = samples.large_books()[1]
        self.same(how_many_rightful(book), 64)
        self.same(len(set(all_rightful(book))), 64)

    def test_nobody(self):
        for book in samples.EDGES[:4]:
            self.same(is_rightful(book, ()), True)
            self.same(rightful_level(book, ()), 0)
            self.same(all_rightful(book), ((),))
            self.same(how_many_rightful(book), 1)
