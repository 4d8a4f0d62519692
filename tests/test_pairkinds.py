"""Point 29: the kinds of pairs."""

from idleclaims.pairkinds import kind_of, kinds_of
from idleclaims.walks import walk_of
from tests import samples, truth
from tests.support import Case

KINDS = ("plain", "rise", "fall", "cold")


class PairKindsTest(Case):
    def test_examples(self):
        self.same([kind_of(samples.FOUR, (0, 2)), kind_of(samples.LESS, (0, 2))], ["rise", "cold"])
        self.same(kinds_of(samples.NARROW), (((0, 0),), ((1, 0),), ((0, 1),), ()))

    def test_by_all_dealings(self):
        found = dict.fromkeys(KINDS, 0)
        for book in samples.small_books() + samples.tiny_books():
            expected = {kind: [] for kind in KINDS}
            for pair in truth.pairs(book):
                kind = truth.kind(book, pair)
                expected[kind].append(pair)
                found[kind] += 1
                self.same(kind_of(book, pair), kind, (book, pair))
            self.same(kinds_of(book), tuple(tuple(expected[kind]) for kind in KINDS))
        self.assertTrue(all(many > 50 for many in found.values()), found)

    def test_large_books(self):
        for book in samples.large_books():
            walk = walk_of(book)
            plain = {pair for dealing in walk for pair in dealing}
            for pair in truth.pairs(book):
                rises = truth.pupil_wants(book, walk[0], pair)
                falls = truth.school_wants(book, walk[-1], pair)
                expected = "plain" if pair in plain else "rise" if rises else "fall" if falls else "cold"
                self.same(kind_of(book, pair), expected)
                self.assertIn(pair, kinds_of(book)[KINDS.index(expected)])

    def test_nobody(self):
        for book in samples.EDGES[:4]:
            self.same(kinds_of(book), ((), (), (), ()))
