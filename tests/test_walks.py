"""Point 28: walks and all plain dealings."""

from idleclaims.errors import InvalidPaper
from idleclaims.walks import all_plain, how_many_plain, lets_walk, walk_of
from tests import samples, truth
from tests.support import Case, is_exactly, with_bools


def walks(book, here):
    """All walks from here on."""
    turnings = truth.turnings(book, here)
    if not turnings:
        return [(here,)]
    return [(here,) + rest for turning in turnings for rest in walks(book, truth.turned(book, here, turning))]


class WalksTest(Case):
    def test_examples(self):
        less, odd, twice = samples.LESS, samples.ODD, samples.TWICE
        self.same(walk_of(less), (((0, 1), (1, 0), (2, 2), (3, 3)), ((0, 0), (1, 1), (2, 2), (3, 3))))
        self.same(all_plain(odd), (((0, 1), (1, 0)), ((0, 0), (1, 1))))
        self.same([how_many_plain(twice), lets_walk(twice, walk_of(twice))], [4, 2])
        self.refuses(InvalidPaper, {"word": "last", "at": 0}, lets_walk, less, (samples.BEST,))

    def test_walk_turns_the_least_pupil(self):
        for book in samples.small_books() + samples.tiny_books():
            walk = [truth.top(book)]
            while truth.turnings(book, walk[-1]):
                walk.append(truth.turned(book, walk[-1], truth.turnings(book, walk[-1])[0]))
            self.same(walk_of(book), tuple(walk))
        first, last = ((0, 1), (1, 0), (2, 3), (3, 2)), ((0, 0), (1, 1), (2, 2), (3, 3))
        self.same(walk_of(samples.TWICE), (first, ((0, 0), (1, 1), (2, 3), (3, 2)), last))

    def test_all_plain(self):
        for book in samples.small_books() + samples.tiny_books():
            self.same(all_plain(book), truth.plains(book))
            self.same(how_many_plain(book), len(truth.plains(book)))

    def test_sequence_goes_by_liking(self):
        # School 1 stands ahead of school 0 on the list of pupil 2, school 3 ahead of school 2 on that of pupil 0.
        book = (((3, 2), (2, 3), (1, 0), (0, 1)), ((2, 3), (3, 2), (0, 1), (1, 0)), (1, 1, 1, 1))
        self.same(all_plain(book), truth.plains(book))
        self.same(len(all_plain(book)), 4)
        self.same(all_plain(book)[1], ((0, 3), (1, 2), (2, 0), (3, 1)))

    def test_sixty_four_plain_dealings(self):
        book = samples.large_books()[1]
        found = all_plain(book)
        self.same(how_many_plain(book), 64)
        self.same(len(found), 64)
        self.same(found[0], truth.asked_by_pupils(book, range(12))[0])
        self.same(found[63], truth.asked_by_schools(book, range(12))[0])
        halves = [tuple(pair for pair in dealing if pair[0] < 2) for dealing in found]
        self.same(halves, [((0, 1), (1, 0))] * 32 + [((0, 0), (1, 1))] * 32)
        self.same(len(walk_of(book)), 7)
        self.same(lets_walk(book, walk_of(book)), 6)

    def test_large_books(self):
        for book in samples.large_books():
            walk = walk_of(book)
            self.same(walk[0], truth.asked_by_pupils(book, range(12))[0])
            self.same(walk[-1], truth.asked_by_schools(book, range(12))[0])
            for here, there in zip(walk, walk[1:]):
                self.same(there, truth.turned(book, here, truth.turnings(book, here)[0]))
            self.same(lets_walk(book, walk), len(walk) - 1)

    def test_any_walk_is_let(self):
        for book in samples.small_books():
            for walk in walks(book, truth.top(book)):
                self.same(lets_walk(book, walk), len(walk) - 1)

    def test_walks_have_the_same_pairs(self):
        for book in samples.small_books():
            plain_pairs = {pair for plain in truth.plains(book) for pair in plain}
            for walk in walks(book, truth.top(book)):
                self.assertEqual({pair for plain in walk for pair in plain}, plain_pairs)

    def wrong_walk(self, book, thing, word, at):
        self.refuses(InvalidPaper, {"word": word, "at": at}, lets_walk, book, thing)

    def test_wrong_shapes(self):
        book = samples.TWICE
        for thing in (None, 0, True, "", "walk", (), [], list(walk_of(book)), [walk_of(book)]):
            self.wrong_walk(book, thing, "shape", -1)

    def test_wrong_first(self):
        book = samples.TWICE
        walk = walk_of(book)
        for thing in (None, 0, "", (), [], list(walk[0]), walk[1], walk[2], walk, with_bools(walk[0]), walk[0][::-1]):
            self.assertFalse(is_exactly(thing, walk[0]))
            self.wrong_walk(book, (thing,) + walk[1:], "first", 0)
            self.wrong_walk(book, (thing,), "first", 0)

    def test_wrong_turned(self):
        book = samples.TWICE
        walk = walk_of(book)
        for thing in (None, 0, "", (), [], list(walk[1]), walk[0], walk[2], walk, with_bools(walk[1]), walk[1][::-1]):
            self.wrong_walk(book, (walk[0], thing) + walk[2:], "turned", 1)
        for thing in (None, walk[0], walk[1], with_bools(walk[2])):
            self.wrong_walk(book, walk[:2] + (thing,), "turned", 2)
            self.wrong_walk(book, walk + (thing,), "turned", 3)
        # Two turnings at once are no step.
        self.wrong_walk(book, (walk[0], walk[2]), "turned", 1)

    def test_wrong_last(self):
        book = samples.TWICE
        walk = walk_of(book)
        self.wrong_walk(book, walk[:1], "last", 0)
        self.wrong_walk(book, walk[:2], "last", 1)

    def test_nobody(self):
        for book in samples.EDGES[:4]:
            self.same(walk_of(book), ((),))
            self.same(all_plain(book), ((),))
            self.same(how_many_plain(book), 1)
            self.same(lets_walk(book, ((),)), 0)
            self.wrong_walk(book, (), "shape", -1)
            self.wrong_walk(book, ((), ()), "turned", 1)
            self.wrong_walk(book, ([],), "first", 0)
