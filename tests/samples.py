"""Books for the tests: those of the document, edges, small ones by the hundred, and the largest."""

from functools import lru_cache
from itertools import permutations, product
from random import Random

from tests import truth
from tests.found import FOUND

FOUR = (((1, 2, 0), (0, 1), (0, 2), (0, 3)), ((0, 3, 1, 2), (1, 0), (2, 0), (3,)), (1, 1, 1, 1))
STILL, BEST = ((0, 0), (1, 1), (2, 2), (3, 3)), ((0, 1), (1, 0), (2, 2), (3, 3))
SWAP = ((0, 2), (1, 1), (2, 0), (3, 3))
TWO = (((1, 0), (0,), (0, 1)), ((0, 1, 2), (2, 0)), (2, 1))
ABOVE, BELOW = ((0, 1), (1, 0), (2, 0)), ((0, 0), (1, 0), (2, 1))
ODD = (((1, 0), (0, 1)), ((0, 1), (1, 0)), (1, 1))
LESS = (((1, 2, 0), (0, 1), (0, 2), (3,)), ((0, 1, 2), (1, 0), (2, 0), (3,)), (1, 1, 1, 1))
NARROW = (((0, 1), (0,)), ((0, 1), (0,)), (1, 1))
TWICE = (((1, 0), (0, 1), (3, 2), (2, 3)), ((0, 1), (1, 0), (2, 3), (3, 2)), (1, 1, 1, 1))
SIDES = (((0, 3, 1, 2), (1, 0), (2, 0), (3,)), ((1, 2, 0), (0, 1), (0, 2), (0, 3)), (1, 1, 1, 1))
LINK = (
    ((1, 2, 0), (0, 1), (3, 2), (2, 3), (0, 4)),
    ((0, 4, 1), (1, 0), (2, 0, 3), (3, 2), (4,)),
    (1, 1, 1, 1, 1),
)

NOBODY = ((), (), ())
NO_PUPILS = ((), ((), ()), (1, 10 ** 29 + 7))
NO_SCHOOLS = (((), (), ()), (), ())
NO_LISTS = (((), ()), ((),), (2,))
# Thirty figures of seats: the school is never full.
WIDE = (((0, 1), (1, 0), (), (0,)), ((3, 0, 1), (0, 1)), (123456789012345678901234567890, 1))

DOCUMENT = (FOUR, TWO, ODD, LESS, NARROW, TWICE, SIDES, LINK)
EDGES = (NOBODY, NO_PUPILS, NO_SCHOOLS, NO_LISTS, WIDE)


def book_of(random, pupils, schools, density, most_seats):
    """A book by chance: each pair is in it with this density, in hundredths."""
    chosen = [(a, b) for a in range(pupils) for b in range(schools) if random.randrange(100) < density]
    wishes = [[b for a, b in chosen if a == pupil] for pupil in range(pupils)]
    rolls = [[a for a, b in chosen if b == school] for school in range(schools)]
    for listed in wishes + rolls:
        random.shuffle(listed)
    seats = [random.randint(1, most_seats) for _ in range(schools)]
    return (tuple(map(tuple, wishes)), tuple(map(tuple, rolls)), tuple(seats))


@lru_cache(maxsize=None)
def small_books():
    """Documented books, edges, rare books and books by chance, each with at most three hundred dealings."""
    random = Random(20)
    found = list(DOCUMENT + EDGES + FOUND)
    while len(found) < 260:
        pupils, schools = random.randint(1, 5), random.randint(1, 4)
        book = book_of(random, pupils, schools, random.choice((50, 75, 95)), random.choice((1, 1, 2, 3)))
        if len(truth.dealings(book)) <= 300:
            found.append(book)
    return tuple(dict.fromkeys(found))


@lru_cache(maxsize=None)
def tiny_books():
    """All books of two pupils and two schools with at most two seats."""
    found = []
    for chosen in product((False, True), repeat=4):
        here = [pair for pair, fine in zip(product(range(2), repeat=2), chosen) if fine]
        wishes = [permutations([b for a, b in here if a == pupil]) for pupil in range(2)]
        rolls = [permutations([a for a, b in here if b == school]) for school in range(2)]
        for one, two, three, four in product(*wishes, *rolls):
            found.extend(((one, two), (three, four), seats) for seats in product((1, 2), repeat=2))
    return tuple(found)


# The rightful pairs of a storey of a tower, counted from its first pupil and school.
STOREY = ((0, 0), (0, 1), (1, 0), (1, 1), (2, 2))


def tower(many):
    """The tower of point 16."""
    wishes, rolls = [], []
    for i in range(many):
        a, b, x = 3 * i, 3 * i + 1, 3 * i + 2
        p, r = a, b
        above, below = i + 1 < many, i > 0
        wishes += [[b] + [x + 3] * above + [a], [a] + [a - 3] * below + [b], [a, x]]
        rolls += [[p, x, r] + [r + 3] * above, [r, p], [x] + [p - 3] * below]
    return (tuple(map(tuple, wishes)), tuple(map(tuple, rolls)), (1,) * (3 * many))


def beside(book, other):
    """Both books side by side."""
    wishes = book[0] + tuple(tuple(b + len(book[1]) for b in wish) for wish in other[0])
    rolls = book[1] + tuple(tuple(a + len(book[0]) for a in roll) for roll in other[1])
    return (wishes, rolls, book[2] + other[2])


@lru_cache(maxsize=None)
def large_books():
    """Books of twelve pupils, twelve schools and at most sixty pairs."""
    random = Random(7)
    found = [tower(4)]
    six_odd = ODD
    for _ in range(5):
        six_odd = beside(six_odd, ODD)
    found.append(six_odd)
    for most_seats in (1, 1, 2):
        found.append(even_book(random, most_seats))
    return tuple(found)


def even_book(random, most_seats):
    """Twelve pupils with five schools each: sixty pairs."""
    wishes = [random.sample(range(12), 5) for _ in range(12)]
    rolls = [[a for a in range(12) if b in wishes[a]] for b in range(12)]
    for roll in rolls:
        random.shuffle(roll)
    seats = [random.randint(1, most_seats) for _ in range(12)]
    return (tuple(map(tuple, wishes)), tuple(map(tuple, rolls)), tuple(seats))
