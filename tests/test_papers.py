"""Points 50 and 51: papers that show what a pair is, and the last book."""

from random import Random

from idleclaims.errors import NotIdle
from idleclaims.lastpapers import last_paper, lets_last_paper
from idleclaims.pairpapers import idle_paper, lets_pair_paper, pair_paper, rightful_paper
from idleclaims.stepmakers import steps_of
from tests import samples, truth
from tests.support import Case, mutations, no_dealings
from tests.test_steps import NO_ROWS
from tests.test_stepchecker import FIRST, WAY, is_plain, judged

FOUR, STILL, BEST = samples.FOUR, samples.STILL, samples.BEST


def pair_judged(book, pair, thing):
    """The first entry that applies and None, or None and what is shown."""
    if type(thing) is not tuple or (len(thing), thing[:1]) not in ((2, ("idle",)), (3, ("rightful",))):
        return ("shape", -1), None
    entry, left = judged(book, thing[1])
    if entry is not None:
        return entry, None
    if thing[0] == "idle":
        return (("struck", -1), None) if pair in truth.pairs(left) else (None, "idle")
    if not is_plain(left, thing[2]):
        return ("dealing", -1), None
    return (None, "rightful") if pair in thing[2] else (("held", -1), None)


def last_judged(book, thing):
    """The first entry that applies and None, or None and the book left."""
    if type(thing) is not tuple or len(thing) != 2:
        return ("shape", -1), None
    entry, left = judged(book, thing[0])
    if entry is not None:
        return entry, None
    if type(thing[1]) is not tuple:
        return ("dealings", 1), None
    for k, dealing in enumerate(thing[1]):
        if not is_plain(left, dealing):
            return ("plain", k), None
    for pair in truth.pairs(left):
        if not any(pair in dealing for dealing in thing[1]):
            return ("uncovered", pair), None
    return None, left


class PairPapersTest(Case):
    def wrong(self, book, pair, thing, word, at):
        self.paper_refused(word, at, lets_pair_paper, book, pair, thing)
        self.same(pair_judged(book, pair, thing)[0], (word, at))

    def test_examples(self):
        self.same(lets_pair_paper(FOUR, (2, 0), ("idle", WAY)), "idle")
        self.same(lets_pair_paper(FOUR, (0, 1), ("rightful", WAY[:1], BEST)), "rightful")
        self.wrong(FOUR, (0, 1), ("rightful", (), STILL), "held", -1)

    def test_papers_of_all_pairs(self):
        for book in samples.small_books()[::2] + samples.tiny_books()[::9]:
            for pair in truth.pairs(book):
                self.paper_of(book, pair, pair in truth.idle_pairs(book))

    def paper_of(self, book, pair, idle):
        made = [pair_paper(book, pair)]
        if idle:
            made.append(idle_paper(book, pair))
            self.not_usable("pair", rightful_paper, book, pair)
        else:
            made.append(rightful_paper(book, pair))
            self.refuses(NotIdle, {"pair": pair}, idle_paper, book, pair)
        for paper in made:
            self.assertIs(type(paper), tuple)
            self.same(paper[0], "idle" if idle else "rightful")
            self.assertEqual(len(paper), 2 if idle else 3)
            self.same(lets_pair_paper(book, pair, paper), paper[0])
            self.same(pair_judged(book, pair, paper), (None, paper[0]))

    def test_large_books(self):
        for book in samples.large_books():
            left = truth.left_by_steps(book, steps_of(book))
            for pair in truth.pairs(book)[::4]:
                self.paper_of(book, pair, pair not in truth.pairs(left))

    def test_shapes(self):
        wrong = [None, 0, True, "", "idle", (), [], ("idle",), ["idle", WAY], ("idle", WAY, BEST), ("rightful", WAY)]
        wrong += [("Idle", WAY), ("rightful", WAY, BEST, BEST), (None, WAY), (("idle",), WAY), ("", WAY, BEST)]
        wrong += [("idle", None, None), ("rightful", None), ("idles", None), ("rightful", WAY, BEST, None), (0, 1)]
        wrong += [("idle rightful", WAY), (WAY, "idle"), ["rightful", WAY, BEST], (["idle"], WAY)]
        for thing in wrong:
            self.wrong(FOUR, (2, 0), thing, "shape", -1)

    def test_entries_of_the_rows(self):
        for rows in (None, 0, "", [], list(WAY)):
            self.wrong(FOUR, (2, 0), ("idle", rows), "shape", -1)
            self.wrong(FOUR, (0, 1), ("rightful", rows, None), "shape", -1)
        for row in NO_ROWS:
            self.wrong(FOUR, (2, 0), ("idle", (FIRST, row)), "row", 1)
            self.wrong(FOUR, (0, 1), ("rightful", (row,), None), "row", 0)
        self.wrong(FOUR, (0, 1), ("idle", WAY[1:]), "dealing", 0)
        self.wrong(FOUR, (0, 1), ("idle", (("up", STILL, (), ((3, 0),)),)), "marks", 0)
        self.wrong(FOUR, (0, 1), ("rightful", WAY + WAY[2:], None), "pairs", 3)
        self.wrong(FOUR, (0, 1), ("rightful", (("up", STILL, (4, 4, 4, 1), ((2, 0), (3, 0))),), None), "pair", (0, 0))

    def test_struck(self):
        self.wrong(FOUR, (2, 0), ("idle", ()), "struck", -1)
        self.wrong(FOUR, (2, 0), ("idle", WAY[:2]), "struck", -1)
        self.wrong(FOUR, (0, 1), ("idle", WAY), "struck", -1)
        self.same(lets_pair_paper(FOUR, (3, 0), ("idle", WAY)), "idle")
        self.same(lets_pair_paper(FOUR, pair=(0, 2), thing=("idle", WAY[:2])), "idle")

    def test_dealing_and_held(self):
        for dealing in no_dealings(FOUR) + [(), BEST, samples.SWAP]:
            self.wrong(FOUR, (0, 0), ("rightful", (), dealing), "dealing", -1)
            # Also if the pair is not in it.
            self.wrong(FOUR, (3, 0), ("rightful", (), dealing), "dealing", -1)
        self.wrong(FOUR, (3, 0), ("rightful", WAY, BEST), "held", -1)
        self.wrong(FOUR, (0, 0), ("rightful", WAY, BEST), "held", -1)
        self.same(lets_pair_paper(FOUR, (0, 0), ("rightful", WAY, STILL)), "rightful")

    def test_papers_changed_by_chance(self):
        """Also G11: what an accepted paper states is true."""
        random = Random(50)
        found = {}
        for book in samples.small_books()[::2]:
            for pair in truth.pairs(book)[:6]:
                papers = [pair_paper(book, other) for other in truth.pairs(book)[:3] + (pair,)]
                for thing in [changed for paper in papers for changed in mutations(paper, random, 4) + [paper]]:
                    entry, shown = pair_judged(book, pair, thing)
                    word = shown if entry is None else entry[0]
                    found[word] = found.get(word, 0) + 1
                    entries = [] if entry is None else [entry]
                    self.same(self.judged_as(entries, lets_pair_paper, book, pair, thing), shown)
                    if shown is not None:
                        self.same(shown == "idle", pair in truth.idle_pairs(book))
        for word in ("idle", "rightful", "shape", "row", "dealing", "marks", "pairs", "pair", "struck", "held"):
            self.assertGreater(found[word], 2, word)


class LastPapersTest(Case):
    def wrong(self, book, thing, word, at):
        self.paper_refused(word, at, lets_last_paper, book, thing)
        self.same(last_judged(book, thing)[0], (word, at))

    def test_example(self):
        self.wrong(FOUR, (WAY, (BEST,)), "uncovered", (0, 0))
        left = lets_last_paper(FOUR, (WAY, (BEST, STILL)))
        self.same(left, truth.ladder(FOUR)[-1])

    def test_papers_of_all_books(self):
        for book in samples.small_books() + samples.tiny_books()[::4] + samples.large_books() + samples.EDGES:
            paper = last_paper(book)
            self.assertIs(type(paper), tuple)
            self.assertEqual(len(paper), 2)
            left = lets_last_paper(book, thing=paper)
            self.same(left, truth.left_by_steps(book, paper[0]))
            if book in samples.small_books():
                self.same(left, truth.struck(book, truth.idle_pairs(book)))
                self.same(last_judged(book, paper), (None, left))

    def test_shapes(self):
        paper = (WAY, (BEST, STILL))
        for thing in (None, 0, "", "ab", (), [], list(paper), paper[:1], paper + ((),), (paper,), ((), (), ())):
            self.wrong(FOUR, thing, "shape", -1)

    def test_entries_of_the_rows(self):
        for rows in (None, 0, "", [], list(WAY)):
            self.wrong(FOUR, (rows, None), "shape", -1)
        for row in NO_ROWS:
            self.wrong(FOUR, ((FIRST, row), None), "row", 1)
        self.wrong(FOUR, (WAY[1:], None), "dealing", 0)
        self.wrong(FOUR, ((("up", STILL, (), ((3, 0),)),), None), "marks", 0)
        self.wrong(FOUR, (WAY + WAY[2:], None), "pairs", 3)
        self.wrong(FOUR, ((("up", STILL, (4, 4, 4, 1), ((2, 0), (3, 0))),), None), "pair", (0, 0))

    def test_dealings(self):
        for dealings in (None, 0, True, "", "ab", [], [BEST, STILL]):
            self.wrong(FOUR, (WAY, dealings), "dealings", 1)
            self.wrong(FOUR, (WAY[:1], dealings), "dealings", 1)
        for dealing in no_dealings(FOUR) + [(), samples.SWAP, BEST[:3]]:
            self.wrong(FOUR, (WAY, (dealing,)), "plain", 0)
            self.wrong(FOUR, (WAY, (BEST, dealing, None)), "plain", 1)
        self.wrong(FOUR, ((), (STILL, BEST)), "plain", 1)

    def test_uncovered(self):
        self.wrong(FOUR, (WAY, ()), "uncovered", (0, 0))
        self.wrong(FOUR, (WAY, (STILL,)), "uncovered", (0, 1))
        self.wrong(FOUR, (WAY[:2], (BEST, STILL)), "uncovered", (2, 0))
        self.wrong(FOUR, (WAY[:1], (BEST, STILL)), "uncovered", (0, 2))
        self.wrong(FOUR, ((), (STILL,)), "uncovered", (0, 1))
        self.wrong(samples.ODD, ((), (((0, 0), (1, 1)),)), "uncovered", (0, 1))
        for book in samples.EDGES[:4]:
            self.same(lets_last_paper(book, ((), ())), book)
            self.same(lets_last_paper(book, ((), ((), ()))), book)

    def test_papers_changed_by_chance(self):
        """Also G11: an accepted paper shows the last book."""
        random = Random(51)
        found = {}
        for book in samples.small_books():
            for thing in mutations(last_paper(book), random, 12):
                entry, left = last_judged(book, thing)
                word = "none" if entry is None else entry[0]
                found[word] = found.get(word, 0) + 1
                self.same(self.judged_as([] if entry is None else [entry], lets_last_paper, book, thing), left)
                if left is not None:
                    self.same(left, truth.struck(book, truth.idle_pairs(book)))
        for word in ("none", "shape", "row", "dealing", "marks", "pair", "dealings", "plain", "uncovered"):
            self.assertGreater(found[word], 2, word)
