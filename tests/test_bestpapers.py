"""Point 60: papers that show the best dealing, or that a plain dealing wastes."""

from random import Random

from idleclaims.best import best_deal
from idleclaims.bestpapers import best_paper, lets_best
from idleclaims.wastepapers import lets_waste, waste_paper
from tests import rings, samples, truth, turnbooks
from tests.support import Case, mutations, no_dealings
from tests.test_stepchecker import FIRST, WAY, is_plain, judged
from tests.test_steps import NO_ROWS

FOUR, STILL, BEST = samples.FOUR, samples.STILL, samples.BEST


def best_judged(book, thing):
    """The first entry that applies and None, or None and the dealing."""
    if type(thing) is not tuple or len(thing) != 2:
        return ("shape", -1), None
    entry, left = judged(book, thing[0])
    if entry is not None:
        return entry, None
    if not is_plain(left, thing[1]):
        return ("dealing", 1), None
    for a, wish in enumerate(left[0]):
        if wish != () and truth.place(thing[1], a) != wish[0]:
            return ("first", a), None
    return None, thing[1]


def is_wanted_ring(book, plain, thing):
    return rings.is_ring(book, plain, thing) and all(truth.pupil_wants(book, plain, pair) for pair in thing)


def waste_judged(book, plain, thing):
    """The first entry that applies and None, or None and what is shown."""
    if type(thing) is not tuple or len(thing) != 2 or type(thing[0]) is not str:
        return ("shape", -1), None
    if thing[0] == "ring":
        return (None, True) if is_wanted_ring(book, plain, thing[1]) else (("ring", 1), None)
    if thing[0] != "heights":
        return ("shape", -1), None
    arrows = truth.rise_arrows(book, plain)
    fine = truth.are_heights(len(book[1]), arrows, thing[1])
    if fine and all(thing[1][start] < thing[1][end] for start, end in arrows):
        return None, False
    return ("heights", 1), None


class BestPapersTest(Case):
    def wrong(self, book, thing, word, at):
        self.paper_refused(word, at, lets_best, book, thing)
        self.same(best_judged(book, thing)[0], (word, at))

    def test_example(self):
        self.wrong(samples.ODD, ((), ((0, 0), (1, 1))), "first", 0)
        self.same(lets_best(samples.ODD, ((), ((0, 1), (1, 0)))), ((0, 1), (1, 0)))
        self.same(lets_best(book=FOUR, thing=(WAY, BEST)), BEST)

    def test_papers_of_all_books(self):
        for book in turnbooks.books() + samples.tiny_books()[::3] + samples.large_books() + samples.EDGES:
            paper = best_paper(book)
            self.assertIs(type(paper), tuple)
            self.same(best_judged(book, paper), (None, best_deal(book)))
            self.same(lets_best(book, paper), best_deal(book))
            if book in turnbooks.books():
                self.same(paper[1], turnbooks.favourite(book, turnbooks.rightfuls(book)))

    def test_rows_need_not_lead_to_the_last_book(self):
        # (2, 0) struck by "up" is enough, (0, 2) may stay: each pupil has the first school of its list.
        rows = (FIRST, ("up", BEST, (2, 0, 1, 7), ((2, 0),)))
        self.same(lets_best(FOUR, (rows, BEST)), BEST)
        self.wrong(FOUR, ((FIRST,), BEST), "first", 2)

    def test_shapes(self):
        paper = (WAY, BEST)
        for thing in (None, 0, True, "", "ab", (), [], list(paper), paper[:1], paper + ((),), (paper,)):
            self.wrong(FOUR, thing, "shape", -1)

    def test_entries_of_the_rows(self):
        for rows in (None, 0, "", [], list(WAY)):
            self.wrong(FOUR, (rows, None), "shape", -1)
        for row in NO_ROWS:
            self.wrong(FOUR, ((FIRST, row), None), "row", 1)
        self.wrong(FOUR, (WAY[1:], None), "dealing", 0)
        self.wrong(FOUR, ((("up", STILL, (), ((3, 0),)),), None), "marks", 0)
        self.wrong(FOUR, (WAY + WAY[2:], None), "pairs", 3)
        self.wrong(FOUR, ((("up", STILL, (4, 4, 4, 1), ((2, 0), (3, 0))),), None), "pair", (0, 0))

    def test_dealing_and_first(self):
        for dealing in no_dealings(FOUR) + [None, (), samples.SWAP, BEST[:3]]:
            self.wrong(FOUR, (WAY, dealing), "dealing", 1)
        # BEST is plain only without (3, 0).
        self.wrong(FOUR, ((), BEST), "dealing", 1)
        self.wrong(FOUR, (WAY, STILL), "first", 0)
        self.wrong(FOUR, ((), STILL), "first", 0)

    def test_a_pupil_whose_list_is_empty(self):
        # Without (1, 0) pupil 1 has nothing left on its list, and no place.
        book, plain = samples.NARROW, ((0, 0),)
        self.wrong(book, ((), plain), "first", 1)
        up = ("up", plain, (0, 0), ((1, 0),))
        self.same(lets_best(book, ((up,), plain)), plain)
        self.same(lets_best(book, ((up, ("down", plain, (0, 0), ((0, 1),))), plain)), plain)
        for edge in samples.EDGES[:4]:
            self.same(lets_best(edge, ((), ())), ())

    def test_papers_changed_by_chance(self):
        """Also G11: an accepted paper shows the best dealing."""
        random = Random(60)
        found = {}
        for book in samples.small_books():
            paper = best_paper(book)
            things = mutations(paper, random, 10) + [(paper[0], m) for m in truth.rightfuls(book)]
            things += [(paper[0][:k], paper[1]) for k in range(len(paper[0]))]
            for thing in things:
                entry, shown = best_judged(book, thing)
                word = "none" if entry is None else entry[0]
                found[word] = found.get(word, 0) + 1
                self.same(self.judged_as([] if entry is None else [entry], lets_best, book, thing), shown)
                if entry is None:
                    self.same(shown, truth.best(book))
        for word in ("none", "shape", "row", "dealing", "marks", "pairs", "pair", "first"):
            self.assertGreater(found[word], 2, (word, found))


class WastePapersTest(Case):
    def wrong(self, book, plain, thing, word, at):
        self.paper_refused(word, at, lets_waste, book, plain, thing)
        self.same(waste_judged(book, plain, thing)[0], (word, at))

    def test_example(self):
        self.same(lets_waste(FOUR, STILL, ("ring", ((0, 2), (2, 0)))), True)
        self.same(lets_waste(book=FOUR, plain=STILL, thing=("ring", ((1, 0), (0, 1)))), True)
        book = samples.ODD
        self.same(lets_waste(book, ((0, 1), (1, 0)), ("heights", (0, 0))), False)

    def test_papers_of_all_plain_dealings(self):
        found = {True: 0, False: 0}
        for book in samples.small_books() + samples.tiny_books()[::2]:
            for plain in truth.plains(book):
                paper = waste_paper(book, plain)
                wastes = plain != truth.best(book)
                self.same(waste_judged(book, plain, paper), (None, wastes))
                self.same(lets_waste(book, plain, paper), wastes)
                found[wastes] += 1
        self.assertGreater(min(found.values()), 50)
        for book in samples.large_books():
            plain = truth.asked_by_pupils(book, range(12))[0]
            self.same(lets_waste(book, plain, waste_paper(book, plain)), plain != best_deal(book))

    def test_shapes(self):
        ring = ((1, 0), (0, 1))
        wrong = [None, 0, True, "", "ring", "heights", (), [], ("ring",), ["ring", ring], ("ring", ring, None)]
        wrong += [("rings", ring), (None, ring), (ring, "ring"), (("ring",), ring), ("Heights", (0, 0, 0, 0)), (0, 1)]
        for thing in wrong + [(["ring"], ring), ("ringheights", ring), (("ring", "heights"), ring)]:
            self.wrong(FOUR, STILL, thing, "shape", -1)

    def test_rings(self):
        wrong = [None, 0, "", (), [], [(1, 0), (0, 1)], ((1, 0),), ((1, 0), (0, 2)), ((True, 0), (0, 1))]
        # A pair that is in plain; a pupil that comes twice; a pupil that does not want; nobody's pair.
        wrong += [((0, 0),), ((1, 0), (0, 1), (1, 0), (0, 1)), ((1, 1), (1, 1)), ((3, 0), (0, 3)), (None, None)]
        for thing in wrong:
            self.wrong(FOUR, STILL, ("ring", thing), "ring", 1)
        # A right ring at BEST, but its pupils do not want.
        self.same(rings.is_ring(samples.LESS, BEST, ((0, 0), (1, 1))), True)
        self.wrong(samples.LESS, BEST, ("ring", ((0, 0), (1, 1))), "ring", 1)
        # One of two does not want.
        book = (((1, 0), (1, 0)), ((0, 1), (1, 0)), (1, 1))
        self.same(truth.claims(book, ((0, 0), (1, 1))), ())
        self.same(rings.is_ring(book, ((0, 0), (1, 1)), ((0, 1), (1, 0))), True)
        self.wrong(book, ((0, 0), (1, 1)), ("ring", ((0, 1), (1, 0))), "ring", 1)

    def test_a_ring_in_which_a_school_comes_twice(self):
        # Pupils 0 and 2 exchange with pupil 1, which has one place only: school 0 comes twice in the ring.
        wishes = ((1, 0), (0, 1), (2, 0), (0, 2))
        rolls = ((0, 2, 1, 3), (1, 0), (3, 2))
        book, plain = (wishes, rolls, (2, 1, 1)), ((0, 0), (1, 1), (2, 0), (3, 2))
        self.same(truth.claims(book, plain), ())
        ring = ((0, 1), (1, 0), (2, 2), (3, 0))
        self.same([b for _, b in ring].count(0), 2)
        self.same(lets_waste(book, plain, ("ring", ring)), True)
        self.same(waste_judged(book, plain, ("ring", ring)), (None, True))

    def test_heights(self):
        book, plain = samples.NARROW, ((0, 0),)
        self.same(lets_waste(book, plain, ("heights", (7, 7))), False)
        # Pupil 0 would rather have school 1, which does not want it: one arrow, which must rise.
        book, plain = (((1, 0), (1,)), ((0,), (1, 0)), (1, 1)), ((0, 0), (1, 1))
        self.same(truth.rise_arrows(book, plain), ((0, 1),))
        self.same(lets_waste(book, plain, ("heights", (0, 10 ** 59))), False)
        wrong = (None, 0, "", (), [0, 1], (0,), (0, 1, 2), (0, 0), (1, 0), (0, True), (-1, 0), (0, None), ("0", "1"))
        for heights in wrong:
            self.wrong(book, plain, ("heights", heights), "heights", 1)
        # Heights of the rise arrows that do not rise along each of them.
        self.wrong(FOUR, STILL, ("heights", (4, 4, 4, 1)), "heights", 1)

    def test_papers_changed_by_chance(self):
        """Also G11: what an accepted paper states is true."""
        random = Random(61)
        found = {}
        for book in samples.small_books():
            for plain in truth.plains(book)[:3]:
                papers = [waste_paper(book, other) for other in truth.plains(book)[:3]] + [waste_paper(book, plain)]
                for thing in [changed for paper in papers for changed in mutations(paper, random, 3) + [paper]]:
                    entry, shown = waste_judged(book, plain, thing)
                    word = shown if entry is None else entry[0]
                    found[word] = found.get(word, 0) + 1
                    entries = [] if entry is None else [entry]
                    self.same(self.judged_as(entries, lets_waste, book, plain, thing), shown)
                    if entry is None:
                        self.same(shown, plain != truth.best(book))
        for word in (True, False, "shape", "ring", "heights"):
            self.assertGreater(found[word], 9, (word, found))
