"""Point 91: a desk that answers lines by lines."""

from random import Random

from idleclaims.desk import answered_line
from idleclaims.errors import InvalidRow, InvalidText
from tests import deepbooks, samples, truth, turnbooks
from tests.support import Case
from tests.test_bestunder import struck_rows, waivers

FOUR = samples.FOUR
FIGURES = "0123456789"


def is_numeral(field):
    if field == "0":
        return True
    return 1 <= len(field) <= 60 and all(sign in FIGURES for sign in field) and field[0] != "0"


def pair_of(field):
    parts = field.split("-")
    return tuple(map(int, parts)) if len(parts) == 2 and all(map(is_numeral, parts)) else None


def line_of(pairs):
    return " ".join("{}-{}".format(*pair) for pair in pairs) if pairs else "-"


def pairs_in(fields):
    """The pairs of these fields, or the place of the first wrong one."""
    if fields == ["-"]:
        return (), None
    for k, field in enumerate(fields or [""]):
        if pair_of(field) is None:
            return None, k
    return tuple(map(pair_of, fields)), None


def expected(book, text):
    """The answer, or the error and its fields, by the words of the document; for small books."""
    word, *fields = text.split(" ")
    if word == "pair":
        return pair_answer(book, fields)
    if word not in ("dealing", "waive"):
        return InvalidText, {"line": 0, "field": 0}
    pairs, wrong = pairs_in(fields)
    if wrong is not None:
        return InvalidText, {"line": 0, "field": wrong + 1}
    for k in range(len(pairs)):
        some = pairs[:k + 1]
        if word == "dealing" and not truth.is_dealing(book, some):
            return InvalidRow, {"row": k + 1}
        if word == "waive" and (not truth.is_set_of_pairs(book, some) or some[-1] in truth.rightful_pairs(book)):
            return InvalidRow, {"row": k + 1}
    return dealing_answer(book, pairs) if word == "dealing" else line_of(truth.top(truth.struck(book, pairs)))


def pair_answer(book, fields):
    for k in (0, 1):
        if k >= len(fields) or not is_numeral(fields[k]):
            return InvalidText, {"line": 0, "field": k + 1}
    if len(fields) > 2:
        return InvalidText, {"line": 0, "field": 3}
    pair = tuple(map(int, fields))
    for k in (0, 1):
        if pair[k] >= len(book[k]):
            return InvalidRow, {"row": k + 1}
    if pair not in truth.pairs(book):
        return "none"
    if pair in truth.rightful_pairs(book):
        return "rightful"
    return "idle " + str(max(k for k, left in enumerate(truth.ladder(book)) if pair in truth.pairs(left)))


def dealing_answer(book, dealing):
    for level, left in enumerate(truth.ladder(book)):
        if dealing in truth.plains(left):
            return "rightful " + str(level)
    claims = [pair for pair in truth.claims(book, dealing) if pair in truth.rightful_pairs(book)]
    return "claimed {}-{}".format(*claims[0])


class DeskTest(Case):
    def judged(self, book, text):
        answer = expected(book, text)
        if type(answer) is str:
            self.same(answered_line(book, text), answer, (book, text))
            return answer.split(" ")[0]
        self.refuses(answer[0], answer[1], answered_line, book, text)
        return answer[0]

    def wrong(self, text, error, **fields):
        self.refuses(error, fields, answered_line, FOUR, text)
        self.same(expected(FOUR, text), (error, fields))

    def test_examples(self):
        lines = ("pair 2 0", "dealing 0-2 1-1 2-0 3-3", "waive 3-0")
        self.same([answered_line(FOUR, line) for line in lines], ["idle 1", "claimed 1-0", "0-1 1-0 2-2 3-3"])

    def test_word_by_word(self):
        answers = {
            "pair 0 1": "rightful", "pair 3 0": "idle 0", "pair 1 2": "none", "pair 3 3": "rightful",
            "dealing 0-1 1-0 2-2 3-3": "rightful 1", "dealing 0-0 1-1 2-2 3-3": "rightful 0",
            "dealing -": "claimed 0-0", "dealing 0-0": "claimed 0-1", "waive -": "0-0 1-1 2-2 3-3",
            "waive 0-2 2-0": "0-0 1-1 2-2 3-3", "waive 0-2 2-0 3-0": "0-1 1-0 2-2 3-3",
        }
        for text, answer in answers.items():
            self.same(answered_line(book=FOUR, text=text), answer)
            self.same(expected(FOUR, text), answer)

    def test_all_lines_of_small_books(self):
        random = Random(93)
        found = {}
        for book in deepbooks.books():
            texts = [f"pair {a} {b}" for a in range(len(book[0])) for b in range(len(book[1]))]
            texts = random.sample(texts, min(8, len(texts)))
            dealings = random.sample(truth.dealings(book), min(2, len(truth.dealings(book))))
            texts += ["dealing " + line_of(m) for m in dealings + list(truth.rightfuls(book)[:3])]
            texts += ["waive " + line_of(some) for some in waivers(book, random, 1)]
            for text in texts:
                word = self.judged(book, text)
                found[word] = found.get(word, 0) + 1
        for word in ("rightful", "idle", "none", "claimed"):
            self.assertGreater(found[word], 50)

    def test_fields_of_pairs(self):
        for text in ("pair", "pair ", "pair  2 0", "pair x 0", "pair -1 0", "pair 01 0", "pair +1 0", "pair 2-0 0"):
            self.wrong(text, InvalidText, line=0, field=1)
        for text in ("pair 2", "pair 2 ", "pair 2  0", "pair 2 x", "pair 9 00", "pair 2 -0", "pair 2 0.", "pair 9"):
            self.wrong(text, InvalidText, line=0, field=2)
        for text in ("pair 2 0 ", "pair 2 0 0", "pair 2 0  ", "pair 9 9 9", "pair 2 0 -"):
            self.wrong(text, InvalidText, line=0, field=3)
        for text in ("pair 4 0", "pair 4 4", "pair 9 9"):
            self.wrong(text, InvalidRow, row=1)
        for text in ("pair 0 4", "pair 3 11"):
            self.wrong(text, InvalidRow, row=2)

    def test_words(self):
        texts = ["", " ", "-", "Pair 2 0", "pairs 2 0", " pair 2 0", "waives -", "2 0", "idle", "deal -", "pair2 0"]
        for text in texts + ["dealing-", "waive,-", "pair,", "DEALING -", "rightful"]:
            self.wrong(text, InvalidText, line=0, field=0)

    def test_fields_of_dealings_and_waivers(self):
        for word in ("dealing", "waive"):
            rests = ["", " ", " x", "  -", " - -", " - 0-1", " 0", " 0-", " -0", " 00-1", " 0--1", " 0-1-2", " 0_1"]
            for rest in rests:
                self.wrong(word + rest, InvalidText, line=0, field=1)
            for rest in (" 9-9 ", " 0-2  3-0", " 0-2 x", " 0-2 -", " 3-0 3"):
                self.wrong(word + rest, InvalidText, line=0, field=2)
            self.wrong(word + " 9-9 9-9 01-1", InvalidText, line=0, field=3)
            for rest in (" 9-9", " 0-3", " 4-0", " 0-4 0-2", " 10-0 0-0"):
                self.wrong(word + rest, InvalidRow, row=1)

    def test_rows_of_dealings(self):
        # No pair; not greater; a pupil that is ahead; a school that has too many.
        self.wrong("dealing 0-1 1-2", InvalidRow, row=2)
        self.wrong("dealing 1-0 0-1", InvalidRow, row=2)
        self.wrong("dealing 0-1 0-1", InvalidRow, row=2)
        self.wrong("dealing 0-1 0-2", InvalidRow, row=2)
        self.wrong("dealing 0-1 1-1", InvalidRow, row=2)
        self.wrong("dealing 0-1 1-0 2-0 3-9", InvalidRow, row=3)
        self.wrong("dealing 0-2 1-1 2-0 3-0", InvalidRow, row=4)

    def test_rows_of_waivers(self):
        self.wrong("waive 0-2 1-2", InvalidRow, row=2)
        self.wrong("waive 3-0 2-0", InvalidRow, row=2)
        self.wrong("waive 3-0 3-0", InvalidRow, row=2)
        self.wrong("waive 0-1", InvalidRow, row=1)
        self.wrong("waive 0-2 2-0 2-2 9-9", InvalidRow, row=3)
        self.wrong("waive 0-2 2-0 3-0 3-3", InvalidRow, row=4)

    def test_numerals_of_sixty_and_sixty_one_figures(self):
        sixty, more = "1" + "0" * 59, "1" + "0" * 60
        self.wrong(f"pair {sixty} 0", InvalidRow, row=1)
        self.wrong(f"pair 0 {sixty}", InvalidRow, row=2)
        self.wrong(f"pair {more} 0", InvalidText, line=0, field=1)
        self.wrong(f"pair {sixty} {more}", InvalidText, line=0, field=2)
        for word in ("dealing", "waive"):
            self.wrong(f"{word} {sixty}-{sixty}", InvalidRow, row=1)
            self.wrong(f"{word} 0-2 {sixty}-0", InvalidRow, row=2)
            self.wrong(f"{word} 0-2 0-{more}", InvalidText, line=0, field=2)
            self.wrong(f"{word} {more}-0 x", InvalidText, line=0, field=1)

    def test_lines_changed_by_chance(self):
        random = Random(94)
        found = {}
        for book in samples.small_books():
            dealing = random.choice(truth.dealings(book))
            texts = ["dealing " + line_of(dealing), "waive " + line_of(truth.idle_pairs(book)), "pair 0 1"]
            for text in texts * 3:
                at = random.randrange(len(text) + 1)
                text = text[:at] + random.choice((" ", "-", "0", "1", "2", "x", "")) + text[at + random.choice((0, 1)):]
                word = self.judged(book, text)
                found[word] = found.get(word, 0) + 1
        for word in ("rightful", "claimed", "idle", "none", InvalidText, InvalidRow):
            self.assertGreater(found[word], 9, (word, found))

    def test_turning_and_large_books(self):
        for book in turnbooks.TURNING + samples.large_books():
            idle, every = struck_rows(book), range(len(book[0]))
            top = truth.asked_by_pupils(book, every)[0]
            best = truth.asked_by_pupils(truth.struck(book, idle), every)[0]
            self.same(answered_line(book, "dealing " + line_of(top)), "rightful 0")
            self.same(answered_line(book, "dealing " + line_of(best)).split(" ")[0], "rightful")
            self.same([answered_line(book, "waive -"), answered_line(book, "waive " + line_of(idle))],
                      [line_of(top), line_of(best)])
            for a, b in truth.pairs(book)[::3]:
                self.same(answered_line(book, f"pair {a} {b}").split(" ")[0], "idle" if (a, b) in idle else "rightful")

    def test_nobody(self):
        for book in samples.EDGES[:4]:
            self.same([answered_line(book, "dealing -"), answered_line(book, "waive -")], ["rightful 0", "-"])
            self.judged(book, "pair 0 0")
            for text in ("dealing 0-0", "waive 0-0"):
                self.refuses(InvalidRow, {"row": 1}, answered_line, book, text)
        self.refuses(InvalidRow, {"row": 1}, answered_line, samples.NO_PUPILS, "pair 0 9")
        self.refuses(InvalidRow, {"row": 2}, answered_line, samples.NO_SCHOOLS, "pair 2 0")
        self.same(answered_line(samples.NO_LISTS, "pair 1 0"), "none")
