"""All dealings of a book in sequence, and their numbers."""

from idleclaims.bookparts import dealing_with
from idleclaims.checking import need
from idleclaims.kinds import is_dealing, is_number


def all_dealings(book):
    """Generates all dealings, those ahead in which the least pupil that differs likes its place more."""
    waiting = [((), tuple(book[2]))]
    while waiting:
        places, free = waiting.pop()
        if len(places) == len(book[0]):
            yield dealing_with(places)
        else:
            options = _options(book[0][len(places)], free)
            for place, left in reversed(options):
                waiting.append((places + (place,), left))


def how_many_dealings(book):
    return Ways(book).many(0, tuple(book[2]))


def dealing_at(book, many):
    """The dealing with this number."""
    ways = Ways(book)
    free = tuple(book[2])
    need(is_number(many) and many < ways.many(0, free), "many")
    places = []
    ahead = many
    for pupil in range(len(book[0])):
        place, free, ahead = ways.choice(pupil, free, ahead)
        places.append(place)
    return dealing_with(places)


def number_of(book, dealing):
    """The number of this dealing."""
    need(is_dealing(book, dealing), "dealing")
    ways = Ways(book)
    places = dict(dealing)
    free = tuple(book[2])
    number = 0
    for pupil in range(len(book[0])):
        counted, free = ways.ahead(pupil, free, places.get(pupil))
        number += counted
    return number


class Ways:
    """Counts in how many ways the pupils from one on can be placed in the seats that are free."""

    def __init__(self, book):
        self.wishes, rolls, _ = book
        pupils = range(len(self.wishes))
        self.later = [tuple([_how_many_from(roll, pupil) for roll in rolls]) for pupil in pupils]
        self.known = {}

    def many(self, pupil, free):
        """How many ways there are for the pupils from this one on."""
        if pupil == len(self.wishes):
            return 1
        # More free seats at a school than pupils still to come on its list make no difference.
        usable = tuple([min(seats, pupils) for seats, pupils in zip(free, self.later[pupil])])
        key = (pupil, usable)
        if key not in self.known:
            options = _options(self.wishes[pupil], usable)
            self.known[key] = sum([self.many(pupil + 1, left) for _, left in options])
        return self.known[key]

    def choice(self, pupil, free, number):
        """The pupil's place in the way with this number, the seats then free, the number left behind it."""
        ahead = 0
        for place, left in _options(self.wishes[pupil], free):
            many = self.many(pupil + 1, left)
            if number < ahead + many:
                return (place, left, number - ahead)
            ahead += many

    def ahead(self, pupil, free, place):
        """How many ways give the pupil a place that it likes more than this one; the seats free behind it."""
        counted = 0
        for other, left in _options(self.wishes[pupil], free):
            if other == place:
                return (counted, left)
            counted += self.many(pupil + 1, left)


def _how_many_from(roll, pupil):
    return len([other for other in roll if other >= pupil])


def _options(wish, free):
    """The places that a pupil with this list may get, best first, each with the seats then free."""
    options = [(school, _one_less(free, school)) for school in wish if free[school] > 0]
    options.append((None, free))
    return options


def _one_less(free, school):
    return free[:school] + (free[school] - 1,) + free[school + 1:]
