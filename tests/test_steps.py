"""Points 47 and 48: rows, and rows that lead to the last book."""

from copy import deepcopy

from idleclaims.errors import NotIdle
from idleclaims.stepkinds import is_row
from idleclaims.stepmakers import steps_of, steps_to
from tests import samples, truth
from tests.support import Case

ROWS = (
    ("up", samples.STILL, (4, 4, 4, 1), ((3, 0),)),
    ("cold", samples.BEST, (), ((0, 2),)),
    ("down", (), (), ((0, 2),)),
    ("rank", (), (None, "x"), (None,)),
    ("up", (None,), (), (0,)),
    ("cold", ((),), (), ((),)),
)
NO_ROWS = (
    None,
    0,
    True,
    "",
    "rows",
    (),
    [],
    list(ROWS[0]),
    ROWS[0][:3],
    ROWS[0] + ((),),
    ("Up",) + ROWS[0][1:],
    ("",) + ROWS[0][1:],
    (None,) + ROWS[0][1:],
    (("up",),) + ROWS[0][1:],
    (["up"],) + ROWS[0][1:],
    (0,) + ROWS[0][1:],
    ("up", None, (), ((3, 0),)),
    ("up", [], (), ((3, 0),)),
    ("up", "", (), ((3, 0),)),
    ("up", (), None, ((3, 0),)),
    ("up", (), [4, 4, 4, 1], ((3, 0),)),
    ("up", (), "", ((3, 0),)),
    ("up", (), 4, ((3, 0),)),
    ("up", (), (), ()),
    ("up", (), (), None),
    ("up", (), (), [(3, 0)]),
    ("up", (), (), []),
    ("up", (), (), "x"),
    ("cold", (), (0,), ((3, 0),)),
    ("cold", (), (None,), ((3, 0),)),
    ("cold", (), ((),), ((3, 0),)),
    ("cold", (), [], ((3, 0),)),
    ("cold", (), (), ()),
    ("down", (), (), ()),
    ("rank", (), (), ()),
    ("rank", [], (), (0,)),
)


class RowsTest(Case):
    def test_rows(self):
        for thing in ROWS:
            self.same(is_row(thing), True, thing)
        self.same(is_row(thing=ROWS[0]), True)

    def test_no_rows(self):
        for thing in NO_ROWS:
            before = deepcopy(thing)
            self.same(is_row(thing), False, thing)
            self.same(thing, before)


class StepsTest(Case):
    def accepted(self, book, steps):
        """The book left by these steps; each of them must be a row."""
        self.assertIs(type(steps), tuple)
        self.assertTrue(all(is_row(row) for row in steps))
        return truth.left_by_steps(book, steps)

    def test_steps_of_small_books(self):
        for book in samples.small_books() + samples.tiny_books():
            left = self.accepted(book, steps_of(book))
            self.same(left, truth.struck(book, truth.idle_pairs(book)), book)

    def test_some_of_the_rows(self):
        for book in samples.small_books()[::2]:
            steps = steps_of(book)
            for many in range(len(steps) + 1):
                left = self.accepted(book, steps[:many])
                for plain in truth.plains(left):
                    won, moves = truth.hearing(book)[plain]
                    self.assertFalse(won)
                    self.assertLessEqual(moves, 2 * many)
            parted = tuple(row[:3] + ((pair,),) for row in steps for pair in row[3])
            self.same(self.accepted(book, parted), self.accepted(book, steps))

    def test_steps_to_each_idle_pair(self):
        for book in samples.small_books():
            for pair in truth.idle_pairs(book):
                steps = steps_to(book, pair)
                self.accepted(book, steps)
                self.assertIn(pair, steps[-1][3])

    def test_steps_to_rightful_pairs(self):
        for book in samples.small_books():
            for pair in truth.rightful_pairs(book):
                self.refuses(NotIdle, {"pair": pair}, steps_to, book, pair)

    def test_document(self):
        four = samples.FOUR
        self.same(self.accepted(four, steps_of(four)), truth.struck(four, ((0, 2), (2, 0), (3, 0))))
        self.same(steps_of(samples.ODD), ())
        self.refuses(NotIdle, {"pair": (0, 1)}, steps_to, four, (0, 1))

    def test_nobody(self):
        for book in samples.EDGES[:4]:
            self.same(steps_of(book), ())

    def test_towers(self):
        for many in (1, 2, 3, 4):
            book = samples.tower(many)
            rightful = {(3 * i + k, 3 * i + j) for i in range(many) for k, j in samples.STOREY}
            idle = tuple(pair for pair in truth.pairs(book) if pair not in rightful)
            self.same(self.accepted(book, steps_of(book)), truth.struck(book, idle))
            for pair in idle:
                steps = steps_to(book, pair)
                self.accepted(book, steps)
                self.assertIn(pair, steps[-1][3])
            for pair in sorted(rightful):
                self.refuses(NotIdle, {"pair": pair}, steps_to, book, pair)

    def test_large_books(self):
        for book in samples.large_books():
            steps = steps_of(book)
            left = self.accepted(book, steps)
            struck = [pair for row in steps for pair in row[3]]
            self.assertEqual(len(set(struck)), len(struck))
            # In the last book nobody is refused, whoever asks.
            self.same(truth.asked_by_pupils(left, range(12))[1], ())
            self.same(truth.asked_by_schools(left, range(12))[1], ())
            for pair in struck[::5]:
                some = steps_to(book, pair)
                self.accepted(book, some)
                self.assertIn(pair, some[-1][3])
