"""Point 61: papers that show that a dealing is rightful, or that a rightful pair claims against it."""

from random import Random

from idleclaims.notpapers import dealing_paper, lets_dealing_paper
from tests import samples, truth, turnbooks
from tests.support import Case, mutations, no_dealings, no_pairs_at_all
from tests.test_stepchecker import FIRST, WAY, is_pair, is_plain, judged
from tests.test_steps import NO_ROWS

FOUR, STILL, BEST, SWAP = samples.FOUR, samples.STILL, samples.BEST, samples.SWAP
ROWS = (("up", STILL, (1, 1, 1, 0), ((3, 0),)),)


def verdict_judged(book, dealing, thing, stands, falls):
    """The first entry that applies and None, or None and whether the dealing stands."""
    if type(thing) is not tuple or (len(thing), thing[:1]) not in ((2, (stands,)), (4, (falls,))):
        return ("shape", -1), None
    entry, left = judged(book, thing[1])
    if entry is not None:
        return entry, None
    if thing[0] == stands:
        return (None, True) if is_plain(left, dealing) else (("plain", -1), None)
    if not is_plain(left, thing[2]):
        return ("plain", 2), None
    if not is_pair(book, thing[3]) or thing[3] not in thing[2]:
        return ("pair", 3), None
    return (None, False) if thing[3] in truth.claims(book, dealing) else (("claim", 3), None)


class VerdictCase(Case):
    """What holds for papers of a dealing with these two words; tests of it stand below and in test_courtpapers."""

    stands, falls = "rightful", "claimed"
    make, check = staticmethod(dealing_paper), staticmethod(lets_dealing_paper)

    def shown(self, stands, thing):
        """What the checker returns."""
        return self.stands if stands else self.falls

    def judged(self, book, dealing, thing):
        return verdict_judged(book, dealing, thing, self.stands, self.falls)

    def wrong(self, book, dealing, thing, word, at):
        self.paper_refused(word, at, self.check, book, dealing, thing)
        self.same(self.judged(book, dealing, thing)[0], (word, at))

    def right(self, book, dealing, thing, stands):
        self.same(self.judged(book, dealing, thing), (None, stands))
        self.same(self.check(book, dealing, thing), self.shown(stands, thing))

    def made(self, book, dealing, stands):
        """The paper that is made for the dealing must be accepted."""
        paper = self.make(book, dealing)
        self.assertIs(type(paper), tuple)
        self.right(book, dealing, paper, stands)

    def hold_papers_of_all_dealings(self):
        for book in samples.small_books()[::3] + samples.tiny_books()[::7] + samples.EDGES:
            for dealing in truth.dealings(book)[::7] + truth.rightfuls(book):
                self.made(book, dealing, dealing in truth.rightfuls(book))

    def hold_papers_of_large_books(self):
        for book in turnbooks.TURNING + samples.large_books():
            rightful = self.make(book, ())
            self.made(book, (), truth.pairs(book) == ())
            self.made(book, rightful[2], True)
            if book in turnbooks.TURNING:
                for dealing in turnbooks.rightfuls(book)[::3]:
                    self.made(book, dealing, True)
                    self.made(book, dealing[1:], dealing == ())

    def hold_shapes(self):
        one, two = self.stands, self.falls
        wrong = [None, 0, True, "", one, (), [], (one,), [one, WAY], (one, WAY, BEST), (two, WAY), (two, WAY, BEST)]
        wrong += [(two, WAY, BEST, (1, 0), None), (one, WAY, BEST, (1, 0)), [two, WAY, BEST, (1, 0)], (None, None)]
        wrong += [(one.upper(), WAY), (two + " ", WAY, BEST, (1, 0)), ((one,), WAY), ([two], None, None, None)]
        for thing in wrong + [(two, None), (one, None, None, None), (WAY, one), (0, 1), (0, 1, 2, 3), (one + two, WAY)]:
            self.wrong(FOUR, SWAP, thing, "shape", -1)
            self.wrong(FOUR, BEST, thing, "shape", -1)

    def hold_entries_of_the_rows(self):
        for head, tail in (((self.stands,), ()), ((self.falls,), (None, None))):
            for rows in (None, 0, "", [], list(WAY)):
                self.wrong(FOUR, SWAP, head + (rows,) + tail, "shape", -1)
            for row in NO_ROWS:
                self.wrong(FOUR, SWAP, head + ((FIRST, row),) + tail, "row", 1)
            self.wrong(FOUR, SWAP, head + (WAY[1:],) + tail, "dealing", 0)
            self.wrong(FOUR, SWAP, head + ((("up", STILL, (), ((3, 0),)),),) + tail, "marks", 0)
            self.wrong(FOUR, SWAP, head + (WAY + WAY[2:],) + tail, "pairs", 3)
            row = ("up", STILL, (4, 4, 4, 1), ((2, 0), (3, 0)))
            self.wrong(FOUR, SWAP, head + ((row,),) + tail, "pair", (0, 0))

    def hold_entries_behind_the_rows(self):
        self.wrong(FOUR, BEST, (self.stands, ()), "plain", -1)
        self.wrong(FOUR, SWAP, (self.stands, ROWS), "plain", -1)
        # SWAP is no dealing of the book left by all rows.
        self.wrong(FOUR, SWAP, (self.stands, WAY), "plain", -1)
        for plain in no_dealings(FOUR) + [None, (), SWAP, BEST[:3]]:
            self.wrong(FOUR, SWAP, (self.falls, ROWS, plain, (1, 0)), "plain", 2)
            self.wrong(FOUR, SWAP, (self.falls, ROWS, plain, None), "plain", 2)
        self.wrong(FOUR, SWAP, (self.falls, (), BEST, (1, 0)), "plain", 2)
        for pair in no_pairs_at_all(FOUR) + [(0, 0), (3, 0), (True, 0), (0, True)]:
            self.wrong(FOUR, SWAP, (self.falls, ROWS, BEST, pair), "pair", 3)
        for pair in ((0, 1), (2, 2), (3, 3)):
            self.wrong(FOUR, SWAP, (self.falls, ROWS, BEST, pair), "claim", 3)
        # A pair that is in the dealing; no claim against a rightful one.
        for pair in BEST:
            self.wrong(FOUR, BEST, (self.falls, ROWS, BEST, pair), "claim", 3)
            self.wrong(FOUR, STILL, (self.falls, ROWS, BEST, pair), "claim", 3)

    def hold_papers_changed_by_chance(self, seed):
        """Also G11: what an accepted paper states is true."""
        random = Random(seed)
        found = {}
        for book in samples.small_books()[::2]:
            dealings = random.sample(truth.dealings(book), min(2, len(truth.dealings(book))))
            for dealing in dealings + [random.choice(truth.rightfuls(book))]:
                papers = [self.make(book, dealing), self.make(book, random.choice(dealings))]
                things = [changed for paper in papers for changed in mutations(paper, random, 4) + [paper]]
                things += [(paper[0], paper[1][:k]) + paper[2:] for paper in papers for k in range(len(paper[1]))]
                for thing in things:
                    entry, stands = self.judged(book, dealing, thing)
                    word = stands if entry is None else entry
                    found[word] = found.get(word, 0) + 1
                    entries = [] if entry is None else [entry]
                    expected = None if entry else self.shown(stands, thing)
                    self.same(self.judged_as(entries, self.check, book, dealing, thing), expected)
                    if entry is None:
                        self.same(stands, dealing in truth.rightfuls(book))
        for word in (True, False, ("shape", -1), ("plain", -1), ("plain", 2), ("pair", 3), ("claim", 3), ("row", 0)):
            self.assertGreater(found.get(word, 0), 2, (word, found))


class NotPapersTest(VerdictCase):
    def test_examples(self):
        self.right(FOUR, BEST, ("rightful", ROWS), True)
        self.right(FOUR, SWAP, ("claimed", ROWS, BEST, (1, 0)), False)
        self.wrong(FOUR, BEST, ("rightful", ()), "plain", -1)
        self.same(lets_dealing_paper(book=FOUR, dealing=BEST, thing=("rightful", ROWS)), "rightful")
        self.same(lets_dealing_paper(FOUR, SWAP, ("claimed", ROWS, BEST, (1, 0))), "claimed")

    def test_papers(self):
        self.hold_papers_of_all_dealings()
        self.hold_papers_of_large_books()

    def test_entries(self):
        self.hold_shapes()
        self.hold_entries_of_the_rows()
        self.hold_entries_behind_the_rows()

    def test_papers_changed_by_chance(self):
        self.hold_papers_changed_by_chance(62)

    def test_the_claim_is_judged_in_the_book(self):
        # SWAP has pairs that the book left by all rows lacks; (0, 1) claims against it all the same.
        dealing = ((0, 2), (2, 0), (3, 3))
        self.right(FOUR, dealing, ("claimed", WAY, BEST, (1, 0)), False)
        self.right(FOUR, dealing, ("claimed", WAY, STILL, (1, 1)), False)
