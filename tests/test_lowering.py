"""Point 83: lists in another sequence that keep the rightful dealings."""

from itertools import combinations

from idleclaims.lowering import best_first, is_lowered, moved_roll, moved_wish, trimmed
from tests import samples, truth
from tests.support import Case, no_books


def with_listed(lists, at, listed):
    return lists[:at] + (listed,) + lists[at + 1:]


def is_lowered_by_words(book, thing):
    """The words of point 83 for a thing that is a book."""
    if len(thing[0]) != len(book[0]) or len(thing[1]) != len(book[1]) or thing[2] != book[2]:
        return False
    pairs, rightful = truth.pairs(thing), truth.rightful_pairs(book)
    if not set(rightful) <= set(pairs) <= set(truth.pairs(book)):
        return False
    for pupil, school in rightful:
        for old, new, entry in ((book[0][pupil], thing[0][pupil], school), (book[1][school], thing[1][school], pupil)):
            behind = old[old.index(entry) + 1:]
            if any(other in behind for other in new[:new.index(entry)]):
                return False
    return True


def all_moves(book):
    """All books made by moving one entry of one list."""
    for pupil, wish in enumerate(book[0]):
        for school in wish:
            for place in range(len(wish)):
                rest = [other for other in wish if other != school]
                rest.insert(place, school)
                yield ("wish", pupil, school, place), (with_listed(book[0], pupil, tuple(rest)), book[1], book[2])
    for school, roll in enumerate(book[1]):
        for pupil in roll:
            for place in range(len(roll)):
                rest = [other for other in roll if other != pupil]
                rest.insert(place, pupil)
                yield ("roll", school, pupil, place), (book[0], with_listed(book[1], school, tuple(rest)), book[2])


class LoweringTest(Case):
    def test_example(self):
        four = samples.FOUR
        result = [is_lowered(four, moved_wish(four, 3, 3, 0)), is_lowered(four, moved_wish(four, 0, 2, 0))]
        self.same(result, [True, False])

    def test_moves(self):
        for book in samples.DOCUMENT + (samples.WIDE, samples.tower(2)) + samples.small_books()[20:60]:
            for (word, owner, entry, place), expected in all_moves(book):
                call = moved_wish if word == "wish" else moved_roll
                self.same(call(book, owner, entry, place), expected)
                self.same(is_lowered(book, expected), is_lowered_by_words(book, expected), (book, expected))

    def test_places_at_the_end(self):
        four = samples.FOUR
        self.same(moved_wish(four, 0, 1, 2)[0][0], (2, 0, 1))
        self.same(moved_wish(four, 0, 0, 2), four)
        self.same(moved_roll(four, 0, 0, 3)[1][0], (3, 1, 2, 0))
        self.not_usable("place", moved_wish, four, 0, 1, 3)
        self.not_usable("place", moved_roll, four, 0, 0, 4)
        self.not_usable("school", moved_wish, four, 0, 3, 0)
        self.not_usable("pupil", moved_roll, four, 1, 3, 0)

    def test_lowered_by_all_tiny_books(self):
        for book in samples.tiny_books()[::6]:
            for thing in samples.tiny_books():
                self.same(is_lowered(book, thing), is_lowered_by_words(book, thing), (book, thing))

    def test_pairs_struck(self):
        for book in samples.small_books():
            self.same(is_lowered(book, book), True)
            for pair in truth.pairs(book):
                expected = pair in truth.idle_pairs(book)
                self.same(is_lowered(book, truth.struck(book, (pair,))), expected)
                self.same(is_lowered(truth.struck(book, (pair,)), book), False)

    def test_other_seats_and_sizes(self):
        for book in samples.DOCUMENT:
            more = book[2][:-1] + (book[2][-1] + 1,)
            self.same(is_lowered(book, (book[0], book[1], more)), False)
            self.same(is_lowered(book, (book[0] + ((),), book[1], book[2])), False)
            self.same(is_lowered(book, (book[0], book[1] + ((),), book[2] + (1,))), False)
        for thing in no_books():
            self.same(is_lowered(samples.TWO, thing), False)

    def test_lowered_books_have_the_same_rightful_dealings(self):
        for book in samples.small_books()[::4]:
            for _, thing in list(all_moves(book))[::3]:
                if is_lowered(book, thing):
                    self.assertEqual(set(truth.rightfuls(thing)), set(truth.rightfuls(book)))
                    self.same(truth.best(thing), truth.best(book))
                    self.same(truth.ladder(thing)[-1], truth.ladder(book)[-1])

    def test_best_first_and_trimmed(self):
        for book in samples.small_books()[::2] + samples.DOCUMENT:
            best = truth.best(book)
            every = tuple(range(len(book[0])))
            sets = [some for length in (0, 1, 2) for some in combinations(every, length)][::2] + [every]
            for pupils in sets:
                first, trim = book[0], []
                for a in pupils:
                    place, wish = truth.place(best, a), book[0][a]
                    if place is not None:
                        first = with_listed(first, a, (place,) + tuple(b for b in wish if b != place))
                    trim += [(a, b) for b in wish if truth.likes(wish, b, place)]
                self.same(best_first(book, pupils), (first, book[1], book[2]))
                self.same(trimmed(book, pupils), truth.struck(book, trim))
                self.same(is_lowered(book, best_first(book, pupils)), True)
                self.same(is_lowered(book, trimmed(book, pupils)), True)
            self.same(truth.top(trimmed(book, every)), best)
            if len(best) == len(every):
                self.same(truth.top(best_first(book, every)), best)

    def test_without_a_place(self):
        self.same(best_first(samples.NARROW, (0, 1)), samples.NARROW)
        self.same(trimmed(samples.NARROW, (0, 1)), (((0, 1), ()), ((0,), (0,)), (1, 1)))
        self.same(trimmed(samples.FOUR, (2,)), truth.struck(samples.FOUR, ((2, 0),)))
        self.same(best_first(samples.FOUR, (2, 3))[0], ((1, 2, 0), (0, 1), (2, 0), (3, 0)))

    def test_large_books(self):
        for book in samples.large_books():
            every = tuple(range(12))
            self.same(is_lowered(book, best_first(book, every)), True)
            self.same(is_lowered(book, trimmed(book, every)), True)
            best = truth.asked_by_pupils(trimmed(book, every), every)[0]
            self.same(truth.asked_by_pupils(trimmed(best_first(book, (0, 5)), every), every)[0], best)
        book = samples.large_books()[1]
        moved = moved_wish(book, 11, 11, 0)
        self.same(moved[0][11], (11, 10))
        self.same(is_lowered(book, moved), False)

    def test_nobody(self):
        for book in samples.EDGES[:4]:
            every = tuple(range(len(book[0])))
            self.same(best_first(book, every), book)
            self.same(trimmed(book, every), book)
            self.same(is_lowered(book, book), True)
