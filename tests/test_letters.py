"""Point 81: what a pupil is told of its list."""

from idleclaims.letters import letter_lines, letter_of
from tests import deepbooks, samples, truth
from tests.support import Case
from tests.test_bestunder import struck_rows


def letter(book, pupil):
    """The letter by the levels of the ladder."""
    rows = []
    for school in book[0][pupil]:
        having = [k for k, left in enumerate(truth.ladder(book)) if (pupil, school) in truth.pairs(left)]
        last = len(truth.ladder(book)) - 1
        rows.append((school, "rightful", None) if last in having else (school, "idle", max(having)))
    return tuple(rows)


def lines(pupil, rows):
    many = sum(word == "rightful" for _, word, _ in rows)
    found = ["pupil " + str(pupil) + ": listed " + str(len(rows)) + ", rightful " + str(many)]
    for school, word, level in rows:
        found.append("school " + str(school) + ": " + (word if word == "rightful" else "idle, level " + str(level)))
    return tuple(found)


class LettersTest(Case):
    def test_examples(self):
        self.same(letter_of(samples.FOUR, 0), ((1, "rightful", None), (2, "idle", 1), (0, "rightful", None)))
        expected = ("pupil 3: listed 2, rightful 1", "school 0: idle, level 0", "school 3: rightful")
        self.same(letter_lines(samples.FOUR, 3), expected)

    def test_word_by_word(self):
        expected = (
            "pupil 0: listed 3, rightful 2", "school 1: rightful", "school 2: idle, level 1", "school 0: rightful"
        )
        self.same(letter_lines(book=samples.FOUR, pupil=0), expected)
        self.same(letter_lines(samples.NARROW, 1), ("pupil 1: listed 1, rightful 0", "school 0: idle, level 0"))
        self.same(letter_lines(samples.WIDE, 2), ("pupil 2: listed 0, rightful 0",))
        self.same(letter_of(samples.WIDE, 2), ())

    def test_small_books(self):
        levels = set()
        for book in deepbooks.books():
            for pupil in range(len(book[0])):
                rows = letter(book, pupil)
                self.same(letter_of(book, pupil), rows)
                self.same(letter_lines(book, pupil), lines(pupil, rows))
                levels.update(level for _, _, level in rows)
                # Rightful are the pairs that some rightful dealing has.
                fine = [b for b, word, _ in rows if word == "rightful"]
                self.same(fine, [b for b in book[0][pupil] if (pupil, b) in truth.rightful_pairs(book)])
        self.assertTrue({None, 0, 1, 2} <= levels)

    def test_towers_and_large_books(self):
        for many in (3, 4):
            for pupil in range(3 * many):
                rows = letter_of(samples.tower(many), pupil)
                storey, kind = pupil // 3, pupil % 3
                # x of a storey has the pair with A at level storey; the others are told by point 16.
                if kind == 2:
                    self.same(rows, ((pupil - 2, "idle", storey), (pupil, "rightful", None)))
                self.same(letter_lines(samples.tower(many), pupil), lines(pupil, rows))
            self.same([row for row in letter_of(samples.tower(many), 0) if row[1] == "idle"], [(5, "idle", 1)])
        for book in samples.large_books():
            idle = struck_rows(book)
            for pupil, wish in enumerate(book[0]):
                rows = letter_of(book, pupil)
                self.same([row[0] for row in rows], list(wish))
                self.same([(pupil, b) for b, word, _ in rows if word == "idle"],
                          [(pupil, b) for b in wish if (pupil, b) in idle])
                self.same(letter_lines(book, pupil), lines(pupil, rows))

    def test_empty_lists(self):
        for book in (samples.NO_SCHOOLS, samples.NO_LISTS):
            for pupil in range(len(book[0])):
                self.same(letter_of(book, pupil), ())
                self.same(letter_lines(book, pupil), (f"pupil {pupil}: listed 0, rightful 0",))
