"""Point 49: the checker of rows, entry by entry."""

from random import Random

from idleclaims.lastbook import last_book
from idleclaims.stepchecker import lets_steps
from idleclaims.stepmakers import steps_of, steps_to
from tests import samples, truth
from tests.support import Case, mutations, no_dealings, no_sets_of_pairs, with_bools
from tests.test_steps import NO_ROWS

FOUR, STILL, BEST = samples.FOUR, samples.STILL, samples.BEST
FIRST = ("up", STILL, (4, 4, 4, 1), ((3, 0),))
WAY = (FIRST, ("cold", BEST, (), ((0, 2),)), ("up", BEST, (2, 0, 1, 7), ((2, 0),)))


def is_row(thing):
    if type(thing) is not tuple or len(thing) != 4 or any(type(part) is not tuple for part in thing[1:]):
        return False
    if type(thing[0]) is not str or thing[0] not in ("cold", "up", "down", "rank"):
        return False
    return thing[3] != () and (thing[0] != "cold" or thing[2] == ())


def is_pair(book, thing):
    """Is thing a pair of the book? True is not 1."""
    return type(thing) is tuple and all(type(value) is int for value in thing) and thing in truth.pairs(book)


def is_pairs(book, thing):
    return type(thing) is tuple and all(is_pair(book, one) for one in thing) and truth.is_set_of_pairs(book, thing)


def is_plain(book, thing):
    """Is thing a dealing of the book that is plain in it?"""
    return is_pairs(book, thing) and truth.is_dealing(book, thing) and not truth.claims(book, thing)


def are_marks(book, dealing, reason, marks):
    if reason == "cold":
        return marks == ()
    if reason == "rank":
        return truth.are_ranks(book, dealing, marks)
    arrows = truth.rise_arrows(book, dealing) if reason == "up" else truth.fall_arrows(book, dealing)
    return truth.are_heights(len(book[1]), arrows, marks)


def judged(book, thing):
    """The first entry of the document that applies and None, or None and the book left."""
    if type(thing) is not tuple:
        return ("shape", -1), None
    left = book
    for k, row in enumerate(thing):
        if not is_row(row):
            return ("row", k), None
        reason, dealing, marks, pairs = row
        if not is_plain(left, dealing):
            return ("dealing", k), None
        if not are_marks(left, dealing, reason, marks):
            return ("marks", k), None
        if not is_pairs(left, pairs):
            return ("pairs", k), None
        for i, pair in enumerate(pairs):
            if not truth.strikes(left, dealing, reason, marks, pair):
                return ("pair", (k, i)), None
        left = truth.struck(left, pairs)
    return None, left


class StepCheckerTest(Case):
    def wrong(self, book, thing, word, at):
        self.paper_refused(word, at, lets_steps, book, thing)
        self.same(judged(book, thing)[0], (word, at))

    def test_examples(self):
        self.same(lets_steps(FOUR, WAY) == last_book(FOUR), True)
        self.wrong(FOUR, (("up", STILL, (4, 4, 4, 1), ((0, 1), (3, 0))),), "pair", (0, 0))
        book = (((0, 1),), ((0,), (0,)), (1, 1))
        self.same(lets_steps(book, (("rank", ((0, 0),), (None, 3), ((0, 1),)),)), (((0,),), ((0,), ()), (1, 1)))

    def test_rows_made_by_the_package(self):
        for book in samples.small_books() + samples.tiny_books() + samples.large_books():
            steps = steps_of(book)
            self.same(lets_steps(book, steps), last_book(book))
            self.same(lets_steps(book=book, thing=()), book)
            # The last rows may be left out, and rows parted.
            for many in range(len(steps)):
                self.same(lets_steps(book, steps[:many]), truth.left_by_steps(book, steps[:many]))
            parted = tuple(row[:3] + ((pair,),) for row in steps for pair in row[3])
            self.same(lets_steps(book, parted), last_book(book))

    def test_steps_to_a_pair(self):
        for book in samples.small_books()[::3]:
            for pair in truth.idle_pairs(book):
                steps = steps_to(book, pair)
                left = lets_steps(book, steps)
                self.same(left, truth.left_by_steps(book, steps))
                self.assertNotIn(pair, truth.pairs(left))

    def test_any_plain_dealing_and_any_right_marks(self):
        """All that a reason strikes at any plain dealing may be struck in one row, and nothing else."""
        for book in samples.small_books()[::2]:
            many = len(book[1])
            for plain in truth.plains(book):
                up = truth.told_heights(many, truth.rise_arrows(book, plain))
                down = truth.told_heights(many, truth.fall_arrows(book, plain))
                rows = [("cold", ()), ("up", up), ("down", down), ("rank", truth.told_ranks(book, plain))]
                rows += [("up", tuple(3 * height for height in up)), ("down", (7,) * many), ("rank", (None,) * many)]
                for reason, marks in rows:
                    struck = truth.struck_pairs(book, plain, reason, marks)
                    for pair in truth.pairs(book):
                        row = (reason, plain, marks, (pair,))
                        if pair in struck:
                            self.same(lets_steps(book, (row,)), truth.struck(book, (pair,)))
                        else:
                            self.wrong(book, (row,), "pair", (0, 0))
                    if struck:
                        self.same(lets_steps(book, ((reason, plain, marks, struck),)), truth.struck(book, struck))

    def test_shape(self):
        for thing in (None, 0, True, "", "rows", [], list(WAY)):
            self.wrong(FOUR, thing, "shape", -1)

    def test_rows(self):
        for row in NO_ROWS:
            self.wrong(FOUR, (row,), "row", 0)
            self.wrong(FOUR, (row, None), "row", 0)
            self.wrong(FOUR, WAY + (row,), "row", 3)
            # An earlier row is judged whole ahead of a later one.
            self.wrong(FOUR, (("up", (), (), (0,)), row), "dealing", 0)
        # A row may be right but for the dealing, the marks and the pairs in it.
        self.wrong(FOUR, (("cold", (None,), (), (None,)),), "dealing", 0)

    def test_dealings(self):
        for dealing in no_dealings(FOUR) + [(), BEST, samples.SWAP, STILL[:3]]:
            if type(dealing) is tuple:
                self.wrong(FOUR, (("up", dealing, (4, 4, 4, 1), ((3, 0),)),), "dealing", 0)
                self.wrong(FOUR, (("up", dealing, (None,), (None,)),), "dealing", 0)
            self.wrong(FOUR, (("cold", dealing, (), (None,)),), "dealing" if type(dealing) is tuple else "row", 0)
        # Plain in the book left: BEST only behind the first row, a dealing with a struck pair never.
        self.wrong(FOUR, WAY[1:], "dealing", 0)
        self.wrong(FOUR, (FIRST, ("cold", ((0, 1), (1, 0), (2, 2), (3, 0)), (), ((0, 2),))), "dealing", 1)

    def test_marks(self):
        for marks in ((), (4, 4, 4), (4, 4, 4, 1, 1), (4, 4, 4, 5), (4, 4, 3, 1), (4, 4, 4, True), (4, 4, 4, None),
                      (4, 4, 4, -1), (4, 4, 4, "1"), ("4",) * 4, (None,) * 4):
            self.wrong(FOUR, (("up", STILL, marks, ((3, 0),)),), "marks", 0)
            self.wrong(FOUR, (("up", STILL, marks, (None,)),), "marks", 0)
        self.same(lets_steps(FOUR, (("up", STILL, (1, 1, 1, 0), ((3, 0),)),)), samples.LESS)
        self.wrong(FOUR, (("up", STILL, (1, 1, 1, 1), ((3, 0),)),), "pair", (0, 0))
        sides = samples.SIDES
        for marks in ((), (3, 3, 3), (3, 3, 3, 2), (3, 3, 4, 4), (3, 3, 3, True), (3, 3, 3, None)):
            self.wrong(sides, (("down", STILL, marks, ((0, 3),)),), "marks", 0)
        for marks in ((), (None, None, None), (0, None, None, 0), (None, None, None, False), (None, None, None, -1)):
            self.wrong(sides, (("rank", STILL, marks, (None,)),), "marks", 0)
        # Heights of the rise arrows are none of the fall arrows.
        self.wrong(FOUR, (("rank", STILL, (4, 4, 4, 1, 1), ((3, 0),)),), "marks", 0)
        self.wrong(sides, (("down", STILL, (0, 0, 0, -1), ((0, 3),)),), "marks", 0)

    def test_pairs(self):
        for pairs in no_sets_of_pairs(FOUR) + [((3, 0), (2, 0)), ((3, 0), (3, 0))]:
            if type(pairs) is tuple and pairs != ():
                self.wrong(FOUR, (("up", STILL, (4, 4, 4, 1), pairs),), "pairs", 0)
        # A pair that is struck already is no pair of the book left.
        self.wrong(FOUR, (FIRST, ("up", BEST, (2, 0, 1, 7), ((3, 0),))), "pairs", 1)
        self.wrong(FOUR, WAY + (("cold", BEST, (), ((0, 2),)),), "pairs", 3)

    def test_pair(self):
        self.wrong(FOUR, (("up", STILL, (4, 4, 4, 1), ((3, 0), (3, 3))),), "pair", (0, 1))
        self.wrong(FOUR, (("up", STILL, (4, 4, 4, 1), ((2, 0), (3, 0))),), "pair", (0, 0))
        self.wrong(FOUR, (FIRST, ("cold", BEST, (), ((0, 2), (2, 0)))), "pair", (1, 1))
        self.wrong(FOUR, (FIRST, ("cold", BEST, (), ((0, 1), (0, 2)))), "pair", (1, 0))
        self.wrong(FOUR, (("cold", STILL, (), ((0, 0),)),), "pair", (0, 0))
        self.wrong(FOUR, (("down", STILL, (0, 0, 0, 0), ((3, 0),)),), "pair", (0, 0))
        self.wrong(FOUR, (("rank", STILL, (None,) * 4, ((3, 0),)),), "pair", (0, 0))
        self.wrong(FOUR, (("up", STILL, (4, 4, 4, 1), ((2, 0), (3, 0))), None), "pair", (0, 0))

    def test_rows_changed_by_chance(self):
        random = Random(49)
        found = {}
        for book in samples.small_books()[::2]:
            steps = steps_of(book)
            for thing in mutations(steps, random, 40):
                entry, left = judged(book, thing)
                word = "none" if entry is None else entry[0]
                found[word] = found.get(word, 0) + 1
                self.same(self.judged_as([] if entry is None else [entry], lets_steps, book, thing), left)
                if left is not None:
                    self.what_is_stated(book, left, len(thing))
        for word in ("none", "shape", "row", "dealing", "marks", "pairs", "pair"):
            self.assertGreater(found[word], 10, word)

    def what_is_stated(self, book, left, many):
        """All struck pairs are idle; what is plain in the book left is lost in at most 2 n moves."""
        gone = set(truth.pairs(book)) - set(truth.pairs(left))
        self.assertTrue(gone <= set(truth.idle_pairs(book)))
        for plain in truth.plains(left):
            won, moves = truth.hearing(book)[plain]
            self.assertFalse(won)
            self.assertLessEqual(moves, 2 * many)

    def test_bools_for_numbers(self):
        for row in (("up", with_bools(STILL), (4, 4, 4, 1), ((3, 0),)),):
            self.wrong(FOUR, (row,), "dealing", 0)
        self.wrong(FOUR, (("up", STILL, (4, 4, 4, True), ((3, 0),)),), "marks", 0)
        self.wrong(FOUR, (("up", STILL, (4, 4, 4, 1), ((3, False),)),), "pairs", 0)

    def test_nobody(self):
        for book in samples.EDGES[:4]:
            self.same(lets_steps(book, ()), book)
            self.wrong(book, (("cold", (), (), ((0, 0),)),), "pairs", 0)
            self.wrong(book, (("up", (), (1,) * len(book[1]), ((0, 0),)),), "pairs", 0)
