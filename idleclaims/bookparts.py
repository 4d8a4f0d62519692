"""What a book consists of, without any judging."""


def listed_pairs(book):
    """The set of all pairs of the book."""
    return tuple([(pupil, school) for pupil, wish in enumerate(book[0]) for school in sorted(wish)])


def struck_book(book, pairs):
    """The book without these pairs, which must be pairs of it."""
    wishes, rolls, seats = book
    gone = {pair: True for pair in pairs}
    left_wishes = [
        tuple([school for school in wish if (pupil, school) not in gone]) for pupil, wish in enumerate(wishes)
    ]
    left_rolls = [tuple([pupil for pupil in roll if (pupil, school) not in gone]) for school, roll in enumerate(rolls)]
    return (tuple(left_wishes), tuple(left_rolls), tuple(seats))


def liking(wish, place):
    """How far down this list the place stands; no place stands behind all others."""
    return len(wish) if place is None else wish.index(place)


def likings(book, dealing):
    """For each pupil how far down its list its place is: dealings stand in sequence by this."""
    places = dict(dealing)
    return [liking(wish, places.get(pupil)) for pupil, wish in enumerate(book[0])]


def dealing_with(places):
    """The dealing in which each pupil has its place of this sequence, a school or None."""
    return tuple([(pupil, school) for pupil, school in enumerate(places) if school is not None])


def better_of(book, one, other):
    """Each pupil has the one of its two places that it likes more."""
    return _chosen(one, other, [here <= there for here, there in zip(likings(book, one), likings(book, other))])


def worse_of(book, one, other):
    """Each pupil has the one of its two places that it likes less."""
    return _chosen(one, other, [here > there for here, there in zip(likings(book, one), likings(book, other))])


def with_at(values, at, value):
    """The tuple with another value at this place."""
    return values[:at] + (value,) + values[at + 1:]


def _chosen(one, other, firsts):
    """For each pupil its place in one where firsts says so, else that in other."""
    here, there = dict(one), dict(other)
    return dealing_with([here.get(pupil) if first else there.get(pupil) for pupil, first in enumerate(firsts)])
