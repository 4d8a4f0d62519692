"""Point 21: books and dealings as lines."""

from random import Random

from idleclaims.booklines import book_lines, dealing_line, read_book, read_dealing
from idleclaims.errors import InvalidPaper, InvalidRow, InvalidText
from tests import samples, truth
from tests.support import Case, no_dealings
from tests.test_bookchecker import full_book

NO_STRINGS = (None, 0, True, (), ("-",), [], ["-"], b"-")
NO_NUMERALS = ("", "00", "01", "-1", "+1", "x", "1x", "1.0", "1_0", "a", "1" * 61, "0" * 60, "1-", ":", "'1'", "\u0661")


def lines_of(book):
    lines = [" ".join([f"pupil {a}:", *map(str, wish)]) for a, wish in enumerate(book[0])]
    for b, roll in enumerate(book[1]):
        lines.append(" ".join([f"school {b} x{book[2][b]}:", *map(str, roll)]))
    return tuple(lines)


class BookLinesTest(Case):
    def test_four(self):
        lines = (
            "pupil 0: 1 2 0", "pupil 1: 0 1", "pupil 2: 0 2", "pupil 3: 0 3",
            "school 0 x1: 0 3 1 2", "school 1 x1: 1 0", "school 2 x1: 2 0", "school 3 x1: 3",
        )
        self.same(book_lines(samples.FOUR), lines)
        self.same(read_book(lines), samples.FOUR)
        self.same(book_lines(samples.TWO)[3:], ("school 0 x2: 0 1 2", "school 1 x1: 2 0"))

    def test_empty_lists(self):
        self.same(book_lines(samples.NOBODY), ())
        self.same(read_book(()), ((), (), ()))
        self.same(book_lines(samples.NO_LISTS), ("pupil 0:", "pupil 1:", "school 0 x2:"))
        self.same(book_lines(samples.NO_PUPILS), ("school 0 x1:", "school 1 x" + str(10 ** 29 + 7) + ":"))
        self.same(book_lines(samples.NO_SCHOOLS), ("pupil 0:", "pupil 1:", "pupil 2:"))

    def test_read_back(self):
        for book in samples.small_books() + samples.tiny_books()[::7] + samples.large_books() + (full_book(30),):
            lines = book_lines(book)
            self.same(lines, lines_of(book))
            self.same(read_book(lines), book)
            self.same(book_lines(read_book(lines=lines)), lines)

    def test_seats_of_sixty_figures(self):
        for seats in (10 ** 29, 10 ** 59, 10 ** 60 - 1):
            self.same(read_book((f"school 0 x{seats}:",)), ((), ((),), (seats,)))
        self.wrong((f"school 0 x{10 ** 60}:",), 0, 2)

    def wrong(self, lines, line, field):
        self.refuses(InvalidText, {"line": line, "field": field}, read_book, lines)

    def test_no_lines(self):
        for lines in NO_STRINGS[:3] + ("", "pupil 0:", ["pupil 0:"], ("pupil 0:", None), (("pupil 0:",),), (0,)):
            self.not_usable("lines", read_book, lines)
        self.not_usable("lines", read_book, ("wrong", 0))

    def test_first_fields(self):
        for word in ("", "Pupil", "pupils", "pupil:", "teacher", "0", "school0"):
            self.wrong((word,), 0, 0)
            self.wrong((word + " 0:",), 0, 0)
            self.wrong(("pupil 0:", word + " x x"), 1, 0)
            self.wrong(("school 0 x1:", word + " 0:"), 1, 0)
        self.wrong((" pupil 0:",), 0, 0)
        # Behind a school no pupil may follow.
        self.wrong(("school 0 x1:", "pupil 0:"), 1, 0)
        self.wrong(("pupil 0:", "school 0 x1:", "pupil 1:"), 2, 0)

    def test_numbers_of_lines(self):
        for told in ("0", "", "1:", "00:", "0::", ":0", "x:", "0:1", ":"):
            self.wrong((f"pupil {told}",), 0, 1)
            self.wrong((f"pupil {told} x",), 0, 1)
        self.wrong(("pupil",), 0, 1)
        self.wrong(("pupil 0:", "pupil 0:"), 1, 1)
        self.wrong(("pupil 0:", "pupil"), 1, 1)
        self.wrong(("pupil  0:",), 0, 1)
        for told in ("0:", "", "1", "00", "x1:"):
            self.wrong((f"school {told} x1:",), 0, 1)
            self.wrong((f"school {told} wrong",), 0, 1)
        self.wrong(("school",), 0, 1)
        self.wrong(("pupil 0:", "school 1 x1:"), 1, 1)
        self.wrong(("school 0 x1:", "school 0 x1:"), 1, 1)

    def test_seats(self):
        wrong = ("", "x", "x:", "1:", "x1", "1x:", "X1:", "xx1:", "x1::", ":", "x-1:", "x+1:", "x 1:", "x01:", "x00:")
        for told in wrong + ("x11", "x1;"):
            self.wrong((f"school 0 {told}",), 0, 2)
        self.wrong(("school 0",), 0, 2)
        self.wrong(("pupil 0:", "school 0 x1:", "school 1"), 2, 2)
        self.wrong(("school 0  x1:",), 0, 2)
        for numeral in NO_NUMERALS:
            self.wrong((f"school 0 x{numeral}: wrong",), 0, 2)

    def test_numbers_of_lists(self):
        for numeral in NO_NUMERALS:
            self.wrong((f"pupil 0: {numeral}",), 0, 2)
            self.wrong((f"pupil 0: 0 1 {numeral} x",), 0, 4)
            self.wrong((f"school 0 x1: {numeral}",), 0, 3)
            self.wrong((f"school 0 x1: 5 {numeral}", "wrong"), 0, 4)
        self.wrong(("pupil 0: ",), 0, 2)
        self.wrong(("pupil 0:  0",), 0, 2)
        self.wrong(("pupil 0: 0 ", "school 0 x1: 0"), 0, 3)
        self.wrong(("pupil 0: 0", "school 0 x1:  0"), 1, 3)

    def test_the_first_line_comes_first(self):
        self.wrong(("pupil 0: x", "wrong"), 0, 2)
        self.wrong(("pupil 0: 0 0", "pupil 1: 7 x"), 1, 3)
        self.wrong(("pupil 0: 9", "school 0 x0: 0", "school 1"), 2, 2)

    def wrong_book(self, lines, word, at):
        self.refuses(InvalidPaper, {"word": word, "at": at}, read_book, lines)

    def test_lines_of_no_book(self):
        self.wrong_book(("pupil 0: 0",), "wish", (0, 0))
        self.wrong_book(("pupil 0: 0 0", "school 0 x0: 5"), "wish", (0, 1))
        self.wrong_book((f"pupil 0: {10 ** 59}", "school 0 x1:"), "wish", (0, 0))
        self.wrong_book(("pupil 0:", "school 0 x0: 5"), "roll", (0, 0))
        self.wrong_book(("pupil 0:", "school 0 x1:", "school 1 x0: 0"), "seat", 1)
        self.wrong_book(("pupil 0:", "school 0 x1: 0"), "sided", (0, 0))
        self.wrong_book(("school 0 x0:",), "seat", 0)


class DealingLinesTest(Case):
    def test_by_hand(self):
        self.same(dealing_line(samples.TWO, ((0, 1), (1, 0))), "0-1 1-0")
        self.same(dealing_line(samples.TWO, ()), "-")
        self.same(read_dealing(samples.TWO, "0-1 1-0"), ((0, 1), (1, 0)))
        self.same(read_dealing(samples.TWO, "-"), ())
        self.refuses(InvalidRow, {"row": 1}, read_dealing, samples.TWO, "0-1 0-0")

    def test_read_back(self):
        for book in samples.small_books():
            for dealing in truth.dealings(book):
                line = dealing_line(book, dealing)
                self.same(line, " ".join(f"{a}-{b}" for a, b in dealing) if dealing else "-")
                self.same(read_dealing(book, line), dealing)

    def test_thirty_pupils_and_schools(self):
        book = full_book(30)
        dealing = tuple((a, 29 - a) for a in range(30))
        self.same(read_dealing(book, dealing_line(book, dealing)), dealing)
        self.same(dealing_line(book, dealing)[:14], "0-29 1-28 2-27")

    def test_no_dealings_have_no_line(self):
        for thing in no_dealings(samples.TWO):
            self.not_usable("dealing", dealing_line, samples.TWO, thing)

    def test_no_strings(self):
        for text in NO_STRINGS:
            self.not_usable("text", read_dealing, samples.TWO, text)

    def wrong(self, text, field):
        self.refuses(InvalidText, {"line": 0, "field": field}, read_dealing, samples.TWO, text)

    def wrong_row(self, book, text, row):
        self.refuses(InvalidRow, {"row": row}, read_dealing, book, text)

    def test_wrong_fields(self):
        for field in ("", "0", "0-", "-0", "0--1", "0-1-2", "0 -1", "0- 1", "x-1", "0-x", "0_1", "+0-1", "(0,1)", "--"):
            self.wrong(field, 0)
            self.wrong(f"{field} wrong", 0)
        for numeral in NO_NUMERALS:
            self.wrong(f"{numeral}-1", 0)
            self.wrong(f"0-1 1-{numeral}", 1)
        self.wrong("- 0-1", 0)
        self.wrong("0-1 -", 1)
        self.wrong("- -", 0)
        self.wrong(" ", 0)
        self.wrong(" 0-1", 0)
        self.wrong("0-1 ", 1)
        self.wrong("0-1  1-0", 1)
        # Fields are looked at ahead of what they tell.
        self.wrong("9-9 0-0 x", 2)
        self.wrong("1-0 0-1 0-", 2)

    def test_wrong_rows(self):
        two = samples.TWO
        for text in ("1-1", "3-0", "0-2", f"{10 ** 59}-0", f"0-{10 ** 59}"):
            self.wrong_row(two, text, 0)
        self.wrong_row(two, "0-1 1-1", 1)
        # Not greater than the one ahead: the same one again, or a lesser one.
        self.wrong_row(two, "0-1 0-1", 1)
        self.wrong_row(two, "1-0 0-1", 1)
        self.wrong_row(two, "0-0 0-1", 1)
        self.wrong_row(two, "0-0 1-0 0-1 7-7", 2)
        # School 0 has two seats, school 1 one.
        self.wrong_row(two, "0-0 1-0 2-0", 2)
        self.wrong_row(two, "0-1 1-0 2-1", 2)
        self.wrong_row(samples.NOBODY, "0-0", 0)

    def test_lines_by_chance(self):
        random = Random(33)
        for book in samples.small_books():
            if not truth.pairs(book):
                continue
            for _ in range(8):
                pairs = tuple(random.choice(truth.pairs(book)) for _ in range(random.randint(1, 4)))
                text = " ".join(f"{a}-{b}" for a, b in pairs)
                wrong = [k for k in range(len(pairs)) if not truth.is_dealing(book, pairs[:k + 1])]
                if wrong:
                    self.wrong_row(book, text, wrong[0])
                else:
                    self.same(read_dealing(book, text), pairs)
