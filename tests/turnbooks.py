"""Books with several turns, some of them ahead of others, and what the definitions say of their rightful dealings.

These books have too many dealings to go through; their rightful dealings are found by striking and turning,
those of small books by the hearing. Nothing here uses the program.
"""

from functools import lru_cache

from tests import samples, truth
from tests.offices import ByAsking

# Found by a search: the first half with one seat each, the others with schools that hold several pupils.
TURNING = (
    (
        ((4, 0, 5), (4, 1, 0, 6, 3, 5), (0, 6, 3, 5, 4), (5, 0, 4, 3, 6), (4, 5, 6, 0, 2), (1, 2, 4, 6, 5)),
        ((4, 1, 3, 0, 2), (1, 5), (4, 5), (1, 3, 2), (2, 5, 3, 4, 1, 0), (1, 5, 2, 0, 3, 4), (3, 1, 4, 5, 2)),
        (1, 1, 1, 1, 1, 1, 1),
    ),
    (
        ((4, 1, 2, 3, 0), (0, 3, 4, 1, 2), (2, 0, 3, 4, 1), (1, 4, 3, 0), (0, 1, 2, 4), (0, 4, 2)),
        ((3, 0, 2, 1, 5, 4), (2, 1, 0, 3, 4), (1, 4, 0, 5, 2), (3, 0, 2, 1), (2, 4, 3, 5, 0, 1)),
        (1, 1, 1, 1, 1),
    ),
    (
        ((3, 0, 4, 5, 1, 2), (5, 2, 1, 0, 4, 3), (0, 4, 1, 3, 2, 5), (1, 4, 5, 0, 3, 2), (4, 3, 0, 1, 2, 5)),
        ((3, 1, 4, 0, 2), (4, 1, 0, 2, 3), (0, 3, 2, 4, 1), (1, 3, 2, 4, 0), (1, 2, 4, 0, 3), (4, 0, 2, 3, 1)),
        (1, 1, 1, 1, 1, 1),
    ),
    (
        ((5, 1, 6, 2, 3, 0, 4), (1, 4, 0, 2, 6, 5, 3), (6, 0, 3, 1, 5, 2, 4), (2, 0, 5, 6, 4, 1, 3), (5, 6, 4, 3, 0, 2, 1)),
        ((0, 4, 1, 3, 2), (3, 4, 2, 0, 1), (2, 4, 1, 0, 3), (3, 1, 0, 2, 4), (2, 3, 0, 4, 1), (1, 2, 3, 4, 0), (1, 3, 0, 2, 4)),
        (1, 1, 1, 1, 1, 1, 1),
    ),
    (
        ((1, 2, 4, 6), (3, 6), (0, 4, 6, 3), (4, 0, 6, 2, 3), (6, 3, 0), (1, 2, 6), (3, 1, 2, 4, 5, 6)),
        ((4, 3, 2), (6, 5, 0), (3, 0, 6, 5), (2, 3, 4, 6, 1), (6, 0, 3, 2), (6,), (6, 5, 2, 0, 3, 1, 4)),
        (1, 1, 1, 1, 1, 1, 1),
    ),
    (
        ((0, 2, 3, 1), (1, 3, 2, 0), (2, 3, 1, 0), (2, 3, 1, 0), (1, 2, 0, 3)),
        ((1, 3, 2, 4, 0), (0, 3, 2, 4, 1), (1, 2, 0, 4, 3), (4, 3, 0, 2, 1)),
        (1, 1, 1, 1),
    ),
    (
        ((0, 5, 2, 1), (2, 1, 0, 4, 5), (1, 5, 4, 3, 2), (3, 2, 5), (1, 2, 0, 4, 5), (4, 3, 2, 0), (3, 2, 1, 0)),
        ((6, 4, 5, 1, 0), (6, 0, 1, 2, 4), (2, 5, 6, 3, 1, 0, 4), (5, 2, 3, 6), (1, 4, 2, 5), (4, 1, 2, 3, 0)),
        (1, 1, 1, 1, 1, 1),
    ),
    (
        ((4, 0, 1, 3, 2), (0, 2, 3, 4, 1), (1, 2, 0, 4, 3), (3, 4, 0, 2, 1), (3, 1, 4, 2, 0), (3, 0, 4, 1, 2)),
        ((4, 2, 5, 1, 3, 0), (3, 5, 1, 0, 4, 2), (5, 4, 3, 0, 1, 2), (2, 0, 1, 4, 5, 3), (2, 4, 5, 1, 3, 0)),
        (1, 1, 1, 1, 1),
    ),
    (
        ((0, 1, 3, 4, 2), (2, 0, 3, 4, 1), (0, 2, 1, 3, 4), (4, 3, 0, 1, 2)),
        ((1, 0, 3, 2), (1, 3, 2, 0), (3, 0, 2, 1), (0, 2, 1, 3), (1, 2, 0, 3)),
        (1, 1, 1, 1, 1),
    ),
    (
        ((5, 4, 0, 3, 1, 6, 2), (3, 0, 6, 1, 4, 5, 2), (3, 5, 2, 4, 1, 6, 0), (2, 5, 0, 6, 4, 1, 3)),
        ((2, 0, 3, 1), (2, 3, 0, 1), (0, 1, 2, 3), (3, 0, 2, 1), (1, 3, 2, 0), (1, 2, 3, 0), (2, 0, 3, 1)),
        (1, 1, 1, 1, 1, 1, 1),
    ),
    (
        ((0, 5, 3, 4, 1), (3, 4, 1), (1, 0), (5, 3, 1), (0, 1, 2, 3), (0, 2, 1, 5, 4), (4, 2, 3, 0, 5)),
        ((6, 2, 5, 4, 0), (0, 5, 1, 3, 2, 4), (4, 5, 6), (4, 6, 3, 0, 1), (0, 5, 1, 6), (6, 5, 0, 3)),
        (1, 1, 1, 1, 1, 1),
    ),
    (
        ((3, 1, 2, 0, 5, 4), (2, 3, 4, 0, 1, 5), (1, 0, 5, 4, 2, 3), (5, 1, 3, 4, 2, 0), (4, 1, 2, 5, 3, 0), (5, 4, 1, 0, 2, 3)),
        ((4, 5, 0, 3, 1, 2), (1, 5, 3, 4, 2, 0), (2, 3, 5, 0, 1, 4), (5, 2, 4, 1, 3, 0), (0, 2, 5, 3, 1, 4), (0, 1, 4, 3, 2, 5)),
        (1, 1, 1, 1, 1, 1),
    ),
    (
        ((1, 3, 5, 2, 4), (2, 4, 0), (3, 4, 0), (2, 5, 0), (1, 5, 6, 2, 3, 4), (3, 1, 5, 4, 0, 2, 6), (4, 6, 0, 2)),
        ((5, 6, 1, 2, 3), (5, 0, 4), (5, 6, 0, 4, 1, 3), (4, 0, 2, 5), (4, 0, 5, 1, 6, 2), (0, 5, 4, 3), (5, 6, 4)),
        (1, 1, 1, 1, 1, 1, 1),
    ),
    (
        ((0, 1, 4, 2, 3), (0, 3, 2, 1, 4), (1, 3, 4, 0, 2), (3, 1, 0, 4, 2), (0, 4, 3, 1, 2), (2, 4, 0, 3, 1), (1, 2, 0, 3, 4)),
        ((6, 2, 5, 4, 1, 0, 3), (5, 1, 4, 0, 2, 3, 6), (0, 4, 2, 3, 1, 5, 6), (6, 0, 5, 4, 1, 2, 3), (1, 6, 0, 4, 3, 2, 5)),
        (1, 1, 1, 1, 1),
    ),
    (
        ((0, 5, 2), (5, 0, 4, 1, 3, 2), (3, 4, 2, 1, 0), (5, 3, 0, 1, 2, 4), (5, 0, 4, 1), (0, 3, 1, 4, 5)),
        ((2, 3, 4, 1, 5, 0), (2, 1, 3, 5, 4), (1, 3, 2, 0), (1, 5, 3, 2), (3, 5, 4, 1, 2), (5, 1, 0, 4, 3)),
        (1, 1, 2, 1, 2, 1),
    ),
    (
        ((1, 0, 3, 4, 5, 2), (5, 3, 2, 0, 1, 4), (4, 3, 1, 5, 0, 2), (3, 0, 1, 5, 2, 4), (5, 1, 3, 0, 2, 4), (0, 5, 1, 4, 3, 2)),
        ((1, 2, 4, 0, 5, 3), (1, 5, 3, 4, 2, 0), (5, 0, 3, 4, 2, 1), (5, 4, 2, 0, 1, 3), (4, 3, 5, 1, 0, 2), (2, 3, 0, 5, 1, 4)),
        (1, 1, 2, 1, 2, 2),
    ),
    (
        ((3, 0, 2, 1), (1, 2, 3, 0), (0, 2, 3, 1), (2, 1, 0, 3), (3, 1, 0, 2), (1, 2, 3, 0), (0, 3, 1, 2)),
        ((1, 5, 2, 4, 3, 6, 0), (6, 2, 3, 0, 5, 1, 4), (4, 0, 6, 5, 1, 2, 3), (3, 5, 1, 6, 2, 0, 4)),
        (2, 2, 1, 2),
    ),
    (
        ((3, 0, 1, 5, 2, 4), (5, 0, 2, 3, 4, 1), (0, 4, 5, 1, 3, 2), (5, 4, 2, 1, 0, 3), (0, 5, 2, 1, 4, 3), (4, 2, 5, 1, 3, 0)),
        ((5, 3, 4, 1, 0, 2), (4, 3, 1, 2, 5, 0), (2, 0, 1, 3, 5, 4), (3, 4, 1, 2, 5, 0), (4, 1, 0, 3, 2, 5), (5, 0, 2, 4, 1, 3)),
        (1, 1, 2, 2, 1, 1),
    ),
    (
        ((3, 4, 0, 1, 2), (2, 1, 3, 0, 4), (3, 4, 0, 1, 2), (2, 4, 0, 3, 1), (2, 0, 1, 3, 4), (4, 1, 2, 3, 0)),
        ((5, 3, 2, 1, 4, 0), (3, 2, 0, 4, 5, 1), (2, 0, 1, 5, 4, 3), (4, 3, 1, 5, 0, 2), (1, 4, 0, 2, 5, 3)),
        (1, 2, 2, 2, 1),
    ),
    (
        ((2, 1, 4, 3, 0), (4, 1, 2, 3, 0), (0, 1, 4, 3, 2), (3, 2, 0, 4, 1), (2, 0, 3, 4, 1), (2, 0, 4, 1, 3), (0, 4, 1, 2, 3)),
        ((0, 1, 3, 6, 4, 2, 5), (4, 5, 3, 1, 0, 6, 2), (2, 1, 6, 3, 4, 5, 0), (6, 0, 2, 1, 5, 4, 3), (3, 2, 5, 4, 6, 0, 1)),
        (1, 1, 1, 2, 1),
    ),
    (
        ((3, 2, 0, 1, 4), (3, 1, 0, 4, 2), (3, 4, 2, 1, 0), (1, 4, 3, 0, 2), (3, 4, 1, 2, 0), (2, 3, 0, 1, 4), (0, 3, 1, 2, 4)),
        ((2, 4, 3, 5, 0, 1, 6), (0, 2, 5, 4, 1, 6, 3), (1, 3, 4, 2, 6, 0, 5), (6, 5, 3, 2, 1, 4, 0), (0, 5, 1, 6, 3, 2, 4)),
        (1, 3, 1, 1, 1),
    ),
    (
        ((5, 2, 0, 4, 3), (1, 0, 5, 2, 4), (2, 3, 4), (3, 1, 0, 2, 4, 5), (3, 1, 0, 2, 5, 4), (4, 3, 5, 0, 1), (1, 4, 5, 2, 0, 3)),
        ((6, 5, 0, 1, 3, 4), (5, 3, 1, 4, 6), (3, 6, 4, 1, 0, 2), (6, 0, 5, 2, 4, 3), (4, 3, 0, 1, 2, 6, 5), (3, 1, 6, 4, 5, 0)),
        (2, 1, 1, 2, 1, 1),
    ),
    (
        ((2, 1), (3, 4, 1, 2), (0, 2, 3), (3, 4, 0, 2), (2,), (1, 0, 2, 4, 3)),
        ((3, 2, 5), (1, 0, 5), (1, 5, 3, 2, 0, 4), (5, 2, 1, 3), (3, 5, 1)),
        (1, 1, 1, 2, 2),
    ),
    (
        ((3, 0, 1, 4, 2), (2, 4, 1, 0, 3), (2, 3, 1, 4, 0), (2, 3, 0, 1, 4), (3, 1, 4, 2, 0), (0, 1, 3, 2, 4), (3, 4, 1, 2, 0)),
        ((6, 2, 4, 1, 3, 5, 0), (3, 0, 6, 1, 2, 5, 4), (6, 5, 4, 0, 1, 3, 2), (1, 5, 3, 6, 2, 0, 4), (3, 5, 4, 2, 0, 1, 6)),
        (1, 2, 1, 3, 2),
    ),
    (
        ((1, 5, 4, 3, 6, 2), (0, 6, 3, 4, 2, 5, 1), (4, 2, 0, 3, 1), (4, 3, 0, 1, 2, 6, 5), (2, 5, 4, 0, 6)),
        ((3, 2, 4, 1), (2, 1, 3, 0), (1, 0, 3, 2, 4), (0, 2, 1, 3), (1, 0, 4, 3, 2), (3, 1, 4, 0), (0, 3, 4, 1)),
        (1, 1, 1, 1, 2, 2, 2),
    ),
    (
        ((3, 0, 1, 4, 2), (4, 3, 2, 0), (1, 2, 3), (4, 1, 5, 2, 0, 3), (1,), (5, 0, 4, 1, 2), (3, 1, 2, 4, 0)),
        ((3, 6, 0, 5, 1), (5, 0, 3, 2, 4, 6), (5, 3, 1, 0, 6, 2), (3, 1, 2, 0, 6), (0, 5, 6, 3, 1), (3, 5)),
        (1, 1, 2, 2, 2, 1),
    ),
    (
        ((4, 2, 0, 1, 3), (4, 3, 1, 0, 2), (0, 4, 1, 2, 3), (0, 1, 3, 2, 4), (2, 1, 4, 0, 3), (3, 1, 2, 4, 0)),
        ((5, 1, 4, 2, 0, 3), (2, 5, 4, 0, 1, 3), (3, 1, 5, 2, 0, 4), (0, 4, 2, 1, 3, 5), (3, 5, 4, 1, 2, 0)),
        (1, 1, 1, 1, 2),
    ),
    (
        ((0, 5, 1, 3, 2), (1, 5, 0), (4, 2, 1, 5), (1, 0, 2, 5, 3), (5, 3, 4, 2, 0), (2, 0, 3, 4, 1, 5), (2, 1, 3, 4, 0)),
        ((4, 6, 1, 5, 3, 0), (0, 5, 2, 3, 1, 6), (0, 3, 4, 2, 5, 6), (3, 0, 6, 4, 5), (5, 6, 4, 2), (5, 3, 2, 0, 1, 4)),
        (1, 2, 2, 1, 1, 2),
    ),
)


# Five turns, none ahead of another one; at least prices it matters that a pair can lead on to two others.
WEB = (
    ((1, 4, 6, 0), (0, 1), (3, 4, 2), (2, 3), (5, 8, 4), (4, 5), (7, 8, 6), (6, 7), (9, 8), (8, 9), (0, 10), (2, 11)),
    ((0, 10, 1), (1, 0), (2, 11, 3), (3, 2), (4, 0, 2, 5), (5, 4), (6, 0, 7), (7, 6), (8, 4, 6, 9), (9, 8), (10,), (11,)),
    (1,) * 12,
)


def books():
    return samples.small_books() + TURNING


@lru_cache(maxsize=None)
def rightfuls(book):
    """All rightful dealings, in the sequence of the document."""
    if book not in TURNING + (WEB,):
        return truth.rightfuls(book)
    found = ByAsking().rightfuls(book)
    return tuple(sorted(found, key=lambda m: [wish.index(truth.place(m, a)) if truth.place(m, a) is not None
                                              else len(wish) for a, wish in enumerate(book[0])]))


@lru_cache(maxsize=None)
def rightful_pairs(book):
    return tuple(sorted({pair for dealing in rightfuls(book) for pair in dealing}))


@lru_cache(maxsize=None)
def idle_pairs(book):
    return tuple(pair for pair in truth.pairs(book) if pair not in rightful_pairs(book))


def favourite(book, dealings):
    """The one of these dealings that no pupil likes less than another one."""
    found = [m for m in dealings if all(truth.gainers(book, m, n) == () for n in dealings)]
    assert len(found) == 1
    return found[0]


@lru_cache(maxsize=None)
def turns(book):
    """The turns on the way down from the best dealing."""
    left = truth.struck(book, idle_pairs(book))
    here, found = favourite(book, rightfuls(book)), []
    while truth.turnings(left, here):
        there = truth.turned(left, here, truth.turnings(left, here)[0])
        found.append(tuple((a, b, truth.place(there, a)) for a, b in here if (a, b) not in there))
        here = there
    return tuple(found)


def is_done(book, turn, dealing):
    """Has each pupil of the turn the place that it moves to, or one that it likes less?"""
    return all(not truth.likes(book[0][a], truth.place(dealing, a), there) for a, _, there in turn)


@lru_cache(maxsize=None)
def done(book):
    """For each turn the set of the rightful dealings in which it is done."""
    return tuple(frozenset(m for m in rightfuls(book) if is_done(book, turn, m)) for turn in turns(book))


@lru_cache(maxsize=None)
def ahead(book):
    """For each turn the numbers of the others that are done wherever it is."""
    every = range(len(done(book)))
    return tuple(tuple(j for j in every if j != k and done(book)[k] <= done(book)[j]) for k in every)


def meets(book, demands, dealing):
    places = dict(dealing)
    return all(a in places and not truth.likes(book[0][a], b, places[a]) for a, b in demands)


def fitting(book, demands):
    """The rightful dealings that meet the demands."""
    return [m for m in rightfuls(book) if meets(book, demands, m)]


def price(book, prices, dealing):
    """What the pairs cost that claim against this rightful dealing."""
    told = dict(zip(idle_pairs(book), prices))
    return sum(told[pair] for pair in truth.claims(book, dealing))


def some_prices(book, random):
    """Prices by chance, of several sizes."""
    most = random.choice((1, 3, 50, 10 ** 59))
    return tuple(random.choice((0, 1, random.randint(0, most))) for _ in idle_pairs(book))


def some_demands(book, random):
    """Demands by chance, mostly some that can be met."""
    pairs = rightful_pairs(book) if random.random() < 0.8 else truth.pairs(book)
    return tuple(sorted(random.sample(pairs, min(len(pairs), random.choice((0, 1, 1, 2, 3))))))
