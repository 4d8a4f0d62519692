"""Point 90: what an office tells the pupils."""

from random import Random

from idleclaims.officelines import office_lines
from tests import samples, truth
from tests.support import Case
from tests.test_bestunder import struck_rows, waivers


def lines_by_words(waived, has, could, many):
    lines = []
    for a in range(many):
        places = [str(m[a]) if a in m else "-" for m in (dict(has), dict(could))]
        schools = " ".join(str(b) for pupil, b in waived if pupil == a)
        lines.append("pupil {} has {} could {} waives {}".format(a, *places, schools if schools else "-"))
    return tuple(lines)


class OfficeLinesTest(Case):
    def test_by_hand(self):
        lines = (
            "pupil 0 has 1 could 1 waives -", "pupil 1 has 0 could 0 waives -",
            "pupil 2 has 2 could 2 waives 0", "pupil 3 has 3 could 3 waives 0",
        )
        self.same(office_lines(samples.FOUR, ((2, 0), (3, 0))), lines)
        self.same(office_lines(samples.FOUR, ())[0], "pupil 0 has 0 could 1 waives -")
        self.same(office_lines(samples.FOUR, waived=())[3], "pupil 3 has 3 could 3 waives -")

    def test_several_schools_and_no_place(self):
        book = (((0, 2, 1), (1,), (2,)), ((0,), (1, 0), (2, 0)), (1, 1, 1))
        lines = ("pupil 0 has 0 could 0 waives 1 2", "pupil 1 has 1 could 1 waives -", "pupil 2 has 2 could 2 waives -")
        self.same(office_lines(book, ((0, 1), (0, 2))), lines)
        lines = ("pupil 0 has 0 could 0 waives 1", "pupil 1 has - could - waives 0")
        self.same(office_lines(samples.NARROW, ((0, 1), (1, 0))), lines)

    def test_small_books(self):
        random = Random(38)
        for book in samples.small_books():
            for waived in waivers(book, random, 1):
                allowed = [m for m in truth.dealings(book) if set(truth.claims(book, m)) <= set(waived)]
                has = [m for m in allowed if all(truth.gainers(book, m, n) == () for n in allowed)][0]
                expected = lines_by_words(waived, has, truth.best(book), len(book[0]))
                self.same(office_lines(book, waived), expected)

    def test_large_books(self):
        for book in samples.large_books():
            idle = struck_rows(book)
            could = truth.asked_by_pupils(truth.struck(book, idle), range(12))[0]
            for waived in ((), idle[::2], idle):
                has = truth.asked_by_pupils(truth.struck(book, waived), range(12))[0]
                self.same(office_lines(book, waived), lines_by_words(waived, has, could, 12))

    def test_nobody(self):
        self.same(office_lines(samples.NOBODY, ()), ())
        self.same(office_lines(samples.NO_PUPILS, ()), ())
        self.same(office_lines(samples.NO_SCHOOLS, ()), tuple(f"pupil {a} has - could - waives -" for a in range(3)))
