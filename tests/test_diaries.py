"""Points 24 and 25: diaries of asking, and their checkers."""

from itertools import permutations
from random import Random

from idleclaims.asking import refused_asked, refused_asking
from idleclaims.diaries import lets_pupils_diary, lets_schools_diary, pupils_diary, schools_diary
from tests import samples, truth
from tests.support import Case, mutations

PUPILS, SCHOOLS = 0, 1
MAKERS = {PUPILS: pupils_diary, SCHOOLS: schools_diary}
CHECKERS = {PUPILS: lets_pupils_diary, SCHOOLS: lets_schools_diary}


class Hall:
    """What happens when one side asks, kept as sets of pairs."""

    def __init__(self, book, side):
        self.book = book
        self.side = side
        self.asked = set()
        self.kept = set()

    def pairs_at(self, asker):
        if self.side == PUPILS:
            return [(asker, b) for b in self.book[0][asker]]
        return [(a, asker) for a in self.book[1][asker]]

    def has_room(self, asker):
        here = [pair for pair in self.kept if pair[self.side] == asker]
        return len(here) < (1 if self.side == PUPILS else self.book[2][asker])

    def next_pair(self, asker):
        left = [pair for pair in self.pairs_at(asker) if pair not in self.asked]
        return left[0] if left else None

    def ready(self):
        return [k for k in range(len(self.book[self.side])) if self.has_room(k) and self.next_pair(k)]

    def ask(self, asker):
        """Who is refused then, or None."""
        pair = self.next_pair(asker)
        self.asked.add(pair)
        self.kept.add(pair)
        other = 1 - self.side
        there = [one for one in self.kept if one[other] == pair[other]]
        if self.side == PUPILS:
            room, listed = self.book[2][pair[1]], self.book[1][pair[1]]
        else:
            room, listed = 1, self.book[0][pair[0]]
        if len(there) <= room:
            return None
        out = max(there, key=lambda one: listed.index(one[self.side]))
        self.kept.remove(out)
        return out[self.side]

    def row(self, asker):
        pair = self.next_pair(asker)
        return pair + (self.ask(asker),)

    def dealing(self):
        return tuple(sorted(self.kept))


def diary_in_order(book, side, order):
    hall = Hall(book, side)
    rows = []
    while hall.ready():
        asker = [k for k in order if k in hall.ready()][0]
        rows.append(hall.row(asker))
    return tuple(rows)


def any_diary(book, side, random):
    """A diary in which each time somebody by chance asks."""
    hall = Hall(book, side)
    rows = []
    while hall.ready():
        rows.append(hall.row(random.choice(hall.ready())))
    return tuple(rows)


def entries(book, side, thing):
    """The first entry of the document that applies, if one does."""
    if type(thing) is not tuple:
        yield ("shape", -1)
        return
    hall = Hall(book, side)
    for k, row in enumerate(thing):
        right = type(row) is tuple and len(row) == 3 and all(type(value) is int for value in row[:2])
        if not right or row[:2] not in truth.pairs(book):
            yield ("row", k)
            return
        asker = row[side]
        if not hall.has_room(asker):
            yield ("asker", k)
            return
        if hall.next_pair(asker) != row[:2]:
            yield ("asked", k)
            return
        refused = hall.ask(asker)
        if row[2] != refused or type(row[2]) is not type(refused):
            yield ("refused", k)
            return
    if hall.ready():
        yield ("open", len(thing))


class DiariesTest(Case):
    def test_examples(self):
        narrow = samples.NARROW
        self.same(pupils_diary(narrow, (1, 0)), ((1, 0, None), (0, 0, 1)))
        first, second = ((0, 0, None), (0, 1, 1)), ((0, 1, None), (0, 0, 1))
        self.same([schools_diary(narrow, (0, 1)), schools_diary(narrow, (1, 0))], [first, second])

    def test_every_order(self):
        for book in samples.small_books()[::4] + samples.tiny_books()[::4]:
            for side, maker in MAKERS.items():
                for order in permutations(range(len(book[side]))):
                    self.same(maker(book, order), diary_in_order(book, side, order), (book, order))

    def test_rows_by_hand(self):
        # Two seats at school 0: the third pupil that asks makes it refuse the one that it likes least.
        book = (((0,), (0,), (0,)), ((2, 0, 1),), (2,))
        self.same(pupils_diary(book, (0, 1, 2)), ((0, 0, None), (1, 0, None), (2, 0, 1)))
        self.same(pupils_diary(book, (2, 0, 1)), ((2, 0, None), (0, 0, None), (1, 0, 1)))
        self.same(pupils_diary(book=book, order=(1, 2, 0)), ((1, 0, None), (2, 0, None), (0, 0, 1)))
        self.same(schools_diary(book, (0,)), ((2, 0, None), (0, 0, None)))
        # The school that asks is refused, or the one that the pupil kept.
        odd = (((1, 0),), ((0,), (0,)), (1, 1))
        self.same(schools_diary(odd, (0, 1)), ((0, 0, None), (0, 1, 0)))
        self.same(schools_diary(odd, (1, 0)), ((0, 1, None), (0, 0, 0)))

    def test_orders(self):
        wrong = [None, 0, True, "", "012", (), (0, 1), (0, 1, 1), (0, 1, 2, 3), (1, 2, 3), [0, 1, 2], (0, 1, -1)]
        wrong += [(0, True, 2), (False, 1, 2), (0, 1, "2"), (0, 1, None), ((0,), 1, 2)]
        book = (((0,), (0, 2), ()), ((0, 1), (), (1,)), (1, 1, 2))
        for order in wrong:
            self.not_usable("order", pupils_diary, book, order)
            self.not_usable("order", schools_diary, book, order)
        self.not_usable("order", pupils_diary, samples.TWO, (0, 1))
        self.not_usable("order", schools_diary, samples.TWO, (0, 1, 2))

    def test_diaries_are_let(self):
        random = Random(34)
        for book in samples.small_books() + samples.large_books():
            for side, checker in CHECKERS.items():
                asked_by = truth.asked_by_pupils if side == PUPILS else truth.asked_by_schools
                dealing, refused = asked_by(book, range(len(book[side])))
                for _ in range(3):
                    diary = any_diary(book, side, random)
                    self.same(checker(book, diary), dealing)
                    rows = [row for row in diary if row[2] is not None]
                    out = [(row[2], row[1]) if side == PUPILS else (row[0], row[2]) for row in rows]
                    self.same(tuple(sorted(out)), refused)
                own = MAKERS[side](book, tuple(range(len(book[side])))[::-1])
                self.same(checker(book, thing=own), dealing)
            self.same(refused_asked(book), truth.asked_by_pupils(book, range(len(book[0])))[1])
            self.same(refused_asking(book), truth.asked_by_schools(book, range(len(book[1])))[1])

    def test_plain_dealings_at_the_end(self):
        for book in samples.small_books():
            every = tuple(range(len(book[0]))), tuple(range(len(book[1])))
            self.same(lets_pupils_diary(book, pupils_diary(book, every[0])), truth.top(book))
            self.same(lets_schools_diary(book, schools_diary(book, every[1])), truth.bottom(book))

    def test_nobody(self):
        for book in samples.EDGES[:4]:
            self.same(pupils_diary(book, tuple(range(len(book[0])))), ())
            self.same(schools_diary(book, tuple(range(len(book[1])))), ())
            for checker in CHECKERS.values():
                self.same(checker(book, ()), ())
                self.paper_refused("row", 0, checker, book, ((0, 0, None),))


class CheckersTest(Case):
    def wrong(self, side, book, thing, word, at):
        self.paper_refused(word, at, CHECKERS[side], book, thing)
        self.same(next(entries(book, side, thing)), (word, at))

    def test_examples(self):
        narrow = samples.NARROW
        self.same(lets_pupils_diary(narrow, ((0, 0, None), (1, 0, 1))), ((0, 0),))
        self.same(lets_schools_diary(narrow, ((0, 0, None), (0, 1, 1))), ((0, 0),))
        self.wrong(PUPILS, narrow, ((0, 0, None),), "open", 1)
        self.wrong(SCHOOLS, narrow, ((0, 0, None), (1, 0, None)), "asker", 1)

    def test_shapes(self):
        for thing in (None, 0, True, "", "rows", [], [(0, 0, None)]):
            for side in CHECKERS:
                self.wrong(side, samples.NARROW, thing, "shape", -1)

    def test_rows(self):
        rows = (None, 0, "", "000", (), (0, 0), (0, 0, None, None), [0, 0, None], (0, 0, None, 1), ((0, 0), None))
        rows += (((0, 0), None, None), (0, 2, None), (2, 0, None), (1, 1, None), (-1, 0, None), (0, -1, None))
        rows += (("0", 0, None), (0, None, None), (False, 0, None), (0, False, None), (0, True, None), ([0], 0, None))
        for row in rows:
            for side in CHECKERS:
                self.wrong(side, samples.NARROW, (row,), "row", 0)
                self.wrong(side, samples.NARROW, (row, None), "row", 0)
                self.wrong(side, samples.NARROW, ((0, 0, None), row), "row", 1)
                self.wrong(side, samples.NARROW, ((0, 0, 0), row), "refused", 0)

    def test_askers(self):
        narrow = samples.NARROW
        # Pupil 0 has a place; what it would ask, and who would be refused, is not looked at.
        self.wrong(PUPILS, narrow, ((0, 0, None), (0, 0, None)), "asker", 1)
        self.wrong(PUPILS, narrow, ((0, 0, None), (0, 1, "x")), "asker", 1)
        self.wrong(SCHOOLS, narrow, ((0, 0, None), (0, 0, None)), "asker", 1)
        # A school with a second seat may ask again, one without may not.
        book = (((0,), (0,), (0,)), ((2, 0, 1),), (2,))
        self.same(lets_schools_diary(book, ((2, 0, None), (0, 0, None))), ((0, 0), (2, 0)))
        self.wrong(SCHOOLS, book, ((2, 0, None), (0, 0, None), (1, 0, None)), "asker", 2)

    def test_asked(self):
        narrow = samples.NARROW
        self.wrong(PUPILS, narrow, ((0, 1, None),), "asked", 0)
        self.wrong(PUPILS, narrow, ((0, 1, "x"), None), "asked", 0)
        self.wrong(SCHOOLS, narrow, ((1, 0, None),), "asked", 0)
        # All have refused it, and it asks again.
        self.wrong(PUPILS, narrow, ((0, 0, None), (1, 0, 1), (1, 0, 1)), "asked", 2)
        self.wrong(SCHOOLS, narrow, ((0, 0, None), (0, 1, 1), (0, 1, 1)), "asked", 2)

    def test_refused(self):
        narrow = samples.NARROW
        for refused in (0, 1, True, False, "", (), "None", -1):
            self.wrong(PUPILS, narrow, ((0, 0, refused),), "refused", 0)
            self.wrong(SCHOOLS, narrow, ((0, 0, refused), None), "refused", 0)
        for refused in (None, 0, True, 2, "1", (1,), [1]):
            self.wrong(PUPILS, narrow, ((0, 0, None), (1, 0, refused)), "refused", 1)
            self.wrong(SCHOOLS, narrow, ((0, 0, None), (0, 1, refused)), "refused", 1)
        for refused in (None, 1, False, "0"):
            book = (((0,), (0,)), ((1, 0),), (1,))
            self.wrong(PUPILS, book, ((0, 0, None), (1, 0, refused)), "refused", 1)
            book = (((1, 0),), ((0,), (0,)), (1, 1))
            self.wrong(SCHOOLS, book, ((0, 0, None), (0, 1, refused)), "refused", 1)

    def test_open(self):
        for book in samples.small_books()[::3]:
            for side, maker in MAKERS.items():
                diary = maker(book, tuple(range(len(book[side]))))
                for many in range(len(diary)):
                    self.wrong(side, book, diary[:many], "open", many)

    def test_diaries_changed_by_chance(self):
        random = Random(35)
        found = {}
        for book in samples.small_books() * 2:
            for side, checker in CHECKERS.items():
                diary = any_diary(book, side, random)
                changed = mutations(diary, random, 12)
                for _ in range(6 if len(diary) > 1 else 0):
                    rows = list(diary)
                    random.shuffle(rows)
                    changed.append(tuple(rows))
                for thing in changed:
                    result = self.judged_as(entries(book, side, thing), checker, book, thing)
                    word = next(entries(book, side, thing), ("none", -1))[0]
                    found[word] = found.get(word, 0) + 1
                    if result is not None:
                        self.same(result, truth.top(book) if side == PUPILS else truth.bottom(book))
        for word in ("none", "shape", "row", "asker", "asked", "refused", "open"):
            self.assertGreater(found[word], 20, word)
