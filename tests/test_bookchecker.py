"""Point 13: the checker of books, entry by entry."""

from copy import deepcopy
from random import Random

from idleclaims.bookchecker import lets_book
from idleclaims.kinds import is_book
from tests import samples
from tests.support import Case, mutations, no_books

WISHES, ROLLS, SEATS = ((0, 1), (0,)), ((1, 0), (0,)), (1, 2)
# What stands for a pupil or a school and is none of two.
NO_ENTRIES = (None, True, False, "", "0", (), (0,), [0], -1, -2, 2, 10 ** 59)
NO_TUPLES = (None, 0, 1, True, "", "01", [], [0], [(0, 1), (0,)])


def entries(thing):
    """The entries of the document that apply, in their sequence."""
    if type(thing) is not tuple or len(thing) != 3:
        yield ("shape", -1)
        return
    wrong_parts = [at for at in range(3) if type(thing[at]) is not tuple]
    for at in wrong_parts:
        yield (("wishes", "rolls", "seats")[at], at)
    if wrong_parts:
        return
    wishes, rolls, seats = thing
    if len(rolls) != len(seats):
        yield ("many", -1)
    for part, word, lists, many in ((0, "wish", wishes, len(rolls)), (1, "roll", rolls, len(wishes))):
        for owner, listed in enumerate(lists):
            if type(listed) is not tuple:
                yield ("list", (part, owner))
                continue
            for place in range(len(listed)):
                entry = listed[place]
                if type(entry) is not int or not 0 <= entry < many or entry in listed[:place]:
                    yield (word, (owner, place))
    for school, many in enumerate(seats):
        if type(many) is not int or many < 1:
            yield ("seat", school)
    for pupil in range(len(wishes)):
        for school in range(len(rolls)):
            if (school in wishes[pupil]) != (pupil in rolls[school]):
                yield ("sided", (pupil, school))


def full_book(many):
    """A book in which each of so many pupils lists each of as many schools."""
    every = tuple(range(many))
    return ((every,) * many, (every[::-1],) * many, tuple(10 ** 29 + k for k in every))


class BookCheckerTest(Case):
    def wrong(self, thing, word, at):
        before = deepcopy(thing)
        self.paper_refused(word, at, lets_book, thing)
        self.same(thing, before)
        self.same(next(entries(thing)), (word, at))
        self.same(is_book(thing), False)

    def test_example(self):
        self.wrong((((0,),), ((),), (1,)), "sided", (0, 0))

    def test_books(self):
        for book in samples.small_books() + samples.tiny_books()[::5] + samples.large_books():
            self.same(lets_book(book), (len(book[0]), len(book[1])))
        self.same(lets_book(thing=samples.FOUR), (4, 4))
        self.same(lets_book(((), (), ())), (0, 0))
        self.same(lets_book((((), ()), (), ())), (2, 0))
        self.same(lets_book(((), ((),), (1,))), (0, 1))
        self.same(lets_book(((), ((),), (10 ** 59,))), (0, 1))

    def test_thirty_pupils_and_schools(self):
        for many in (12, 13, 30):
            self.same(lets_book(full_book(many)), (many, many))
        book = full_book(30)
        lacking = book[1][29][:-1]
        self.wrong((book[0], book[1][:29] + (lacking,), book[2]), "sided", (0, 29))
        self.wrong((book[0], book[1], book[2][:29] + (0,)), "seat", 29)
        self.wrong((book[0][:29] + ((0, 30),), book[1], book[2]), "wish", (29, 1))

    def test_shape(self):
        right = (WISHES, ROLLS, SEATS)
        for thing in (None, 0, True, "", "abc", (), [], list(right), right[:2], right + ((),), (right,), (None, None)):
            self.wrong(thing, "shape", -1)

    def test_parts(self):
        for part in NO_TUPLES:
            self.wrong((part, ROLLS, SEATS), "wishes", 0)
            self.wrong((part, None, None), "wishes", 0)
            self.wrong((WISHES, part, SEATS), "rolls", 1)
            self.wrong((WISHES, part, None), "rolls", 1)
            self.wrong(((None,), part, SEATS), "rolls", 1)
            self.wrong((WISHES, ROLLS, part), "seats", 2)
            self.wrong(((None,), (None,), part), "seats", 2)

    def test_many(self):
        for seats in ((), (1,), (1, 2, 1), (None,), (0, 0, 0)):
            self.wrong((WISHES, ROLLS, seats), "many", -1)
            self.wrong(((None,), ROLLS, seats), "many", -1)
        self.wrong((WISHES, (None,), SEATS), "many", -1)

    def test_lists(self):
        for listed in NO_TUPLES:
            self.wrong(((listed, (0,)), ROLLS, SEATS), "list", (0, 0))
            self.wrong(((listed, listed), (listed, listed), (0, 0)), "list", (0, 0))
            self.wrong((((0, 1), listed), ROLLS, SEATS), "list", (0, 1))
            self.wrong((((0, 1), listed), (None, None), SEATS), "list", (0, 1))
            self.wrong((WISHES, (listed, (0,)), SEATS), "list", (1, 0))
            self.wrong((WISHES, ((1, 0), listed), SEATS), "list", (1, 1))
            self.wrong((WISHES, ((1, 0), listed), (0, 0)), "list", (1, 1))

    def test_entries_of_lists(self):
        for entry in NO_ENTRIES:
            self.wrong((((entry, 1), (0,)), ROLLS, SEATS), "wish", (0, 0))
            self.wrong((((0, entry), (0,)), ROLLS, SEATS), "wish", (0, 1))
            self.wrong((((0, entry), None), ROLLS, SEATS), "wish", (0, 1))
            self.wrong((((0, 1), (0, entry)), ROLLS, SEATS), "wish", (1, 1))
            self.wrong((WISHES, ((entry, 0), (0,)), SEATS), "roll", (0, 0))
            self.wrong((WISHES, ((1, entry), None), SEATS), "roll", (0, 1))
            self.wrong((WISHES, ((1, 0), (entry,)), (0, 0)), "roll", (1, 0))
        self.wrong((((1, 0, 1), (0,)), ROLLS, SEATS), "wish", (0, 2))
        self.wrong((((0, 0), (0,)), ROLLS, SEATS), "wish", (0, 1))
        self.wrong((((0, 1), (0, 0)), (None, None), SEATS), "wish", (1, 1))
        self.wrong((WISHES, ((1, 0, 0), (0,)), SEATS), "roll", (0, 2))
        self.wrong((WISHES, ((1, 0), (0, 0)), (0, 1)), "roll", (1, 1))
        # Of a list all places are looked at ahead of the next list.
        self.wrong((((0, 2), None), ROLLS, SEATS), "wish", (0, 1))
        self.wrong(((None, (2,)), ROLLS, SEATS), "list", (0, 0))

    def test_other_numbers_of_pupils_and_schools(self):
        self.wrong((((2,), (0,), ()), ((1,), ()), (1, 1)), "wish", (0, 0))
        self.wrong((((1,),), ((), (1,)), (1, 1)), "roll", (1, 0))
        self.wrong((((0,),), (), ()), "wish", (0, 0))
        self.wrong(((), ((0,),), (1,)), "roll", (0, 0))

    def test_seats(self):
        for many in (None, True, False, "", "1", (), (1,), [1], 0, -1, -(10 ** 59)):
            self.wrong((WISHES, ROLLS, (many, 1)), "seat", 0)
            self.wrong((WISHES, ROLLS, (1, many)), "seat", 1)
            self.wrong((WISHES, ROLLS, (many, 0)), "seat", 0)
            self.wrong((WISHES, ((1,), (0,)), (1, many)), "seat", 1)

    def test_sided(self):
        self.wrong((((0, 1), (0,)), ((1, 0), ()), SEATS), "sided", (0, 1))
        self.wrong((((0, 1), ()), ((1, 0), (0,)), SEATS), "sided", (1, 0))
        self.wrong((((0,), (0,)), ((1,), (0, 1)), SEATS), "sided", (0, 0))
        self.wrong((((), (1,)), ((1,), (0,)), SEATS), "sided", (0, 1))
        self.wrong((((), (1, 0)), ((1,), ()), SEATS), "sided", (1, 1))

    def test_no_books_are_refused(self):
        for thing in no_books():
            self.wrong(thing, *next(entries(thing)))

    def test_books_changed_by_chance(self):
        random = Random(31)
        found = {}
        for book in samples.small_books() + samples.large_books():
            for thing in mutations(book, random, 20):
                result = self.judged_as(entries(thing), lets_book, thing)
                word = next(entries(thing), ("none", -1))[0]
                found[word] = found.get(word, 0) + 1
                self.same(is_book(thing), result is not None)
                if result is not None:
                    self.same(result, (len(thing[0]), len(thing[1])))
        for word in ("none", "shape", "wishes", "rolls", "seats", "many", "list", "wish", "roll", "seat", "sided"):
            self.assertGreater(found[word], 5, word)
