"""Point 79: papers that show that a dealing is lost, or won, and in how many moves at most."""

from idleclaims.courtpapers import court_paper, lets_court
from tests import samples, truth
from tests.test_notpapers import VerdictCase
from tests.test_stepchecker import FIRST, WAY

FOUR, STILL, BEST, SWAP = samples.FOUR, samples.STILL, samples.BEST, samples.SWAP


class CourtPapersTest(VerdictCase):
    stands, falls = "lost", "won"
    make, check = staticmethod(court_paper), staticmethod(lets_court)

    def shown(self, stands, thing):
        many = len(thing[1])
        return (False, 2 * many) if stands else (True, 2 * many + 1)

    def test_examples(self):
        self.same(lets_court(FOUR, BEST, ("lost", (FIRST,))), (False, 2))
        self.same(lets_court(book=FOUR, dealing=SWAP, thing=("won", (FIRST,), BEST, (1, 0))), (True, 3))
        self.wrong(FOUR, SWAP, ("won", (FIRST,), BEST, (0, 1)), "claim", 3)

    def test_papers(self):
        self.hold_papers_of_all_dealings()
        self.hold_papers_of_large_books()

    def test_entries(self):
        self.hold_shapes()
        self.hold_entries_of_the_rows()
        self.hold_entries_behind_the_rows()

    def test_papers_changed_by_chance(self):
        self.hold_papers_changed_by_chance(79)

    def test_bounds(self):
        """Also G11: an accepted paper tells who wins, in at most so many moves."""
        for book in samples.small_books()[::3]:
            told = truth.hearing(book)
            for dealing in truth.dealings(book)[::8] + truth.rightfuls(book):
                paper = court_paper(book, dealing)
                for many in range(len(paper[1]) + 1):
                    thing = (paper[0], paper[1][:many]) + paper[2:]
                    entry, stands = self.judged(book, dealing, thing)
                    if entry is None:
                        won, bound = lets_court(book, dealing, thing)
                        self.same([won, bound], [told[dealing][0], 2 * many + (not stands)])
                        self.assertLessEqual(told[dealing][1], bound)

    def test_rows_count_one_by_one(self):
        self.same(lets_court(FOUR, STILL, ("lost", ())), (False, 0))
        self.same(lets_court(FOUR, STILL, ("lost", WAY)), (False, 6))
        self.same(lets_court(FOUR, (), ("won", WAY, BEST, (1, 0))), (True, 7))
        self.same(lets_court(FOUR, (), ("won", (), STILL, (2, 2))), (True, 1))
        # The words of the other papers are none here.
        self.wrong(FOUR, BEST, ("rightful", WAY), "shape", -1)
        self.wrong(FOUR, SWAP, ("claimed", WAY, BEST, (1, 0)), "shape", -1)
