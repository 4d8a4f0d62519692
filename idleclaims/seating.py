"""A dealing laid out so that questions about wants are answered quickly."""

from idleclaims.bookparts import liking, listed_pairs


class Seating:
    """A dealing of a book, both right already; it never changes."""

    def __init__(self, book, dealing):
        self.book = book
        self.dealing = dealing
        self.wishes, self.rolls, self.seats = book
        self.place_map = dict(dealing)
        self.held_lists = [[] for _ in self.rolls]
        for pupil, school in dealing:
            self.held_lists[school].append(pupil)
        self.limits = [self.limit(school) for school in range(len(self.rolls))]

    def place(self, pupil):
        """The pupil's school, or None."""
        return self.place_map.get(pupil)

    def is_full(self, school):
        return len(self.held_lists[school]) == self.seats[school]

    def least_held(self, school):
        """The pupil that the school likes least of those it holds; it must hold one."""
        roll = self.rolls[school]
        return max(self.held_lists[school], key=lambda pupil: roll.index(pupil))

    def limit(self, school):
        """The place in the school's list ahead of which it wants all that it does not hold."""
        roll = self.rolls[school]
        return roll.index(self.least_held(school)) if self.is_full(school) else len(roll)

    def would_go(self, pupil, school):
        """Does the pupil want this school of its list?"""
        wish = self.wishes[pupil]
        return wish.index(school) < liking(wish, self.place(pupil))

    def would_take(self, school, pupil):
        """Does the school want this pupil of its list?"""
        return self.place(pupil) != school and self.rolls[school].index(pupil) < self.limits[school]

    def next_for(self, pupil):
        """The next school of the pupil; the dealing must be plain."""
        place = self.place(pupil)
        if place is None:
            return None
        wish = self.wishes[pupil]
        for school in wish[wish.index(place) + 1:]:
            if self.would_take(school, pupil):
                return school
        return None

    def pointed_by(self, pupil):
        """The pupil to which this one points, or None; the dealing must be plain."""
        school = self.next_for(pupil)
        if school is None or not self.is_full(school):
            return None
        return self.least_held(school)


def claims_in(book, dealing):
    """The set of the pairs that claim against the dealing."""
    seating = Seating(book, dealing)
    return tuple([pair for pair in listed_pairs(book) if _claims(seating, pair)])


def _claims(seating, pair):
    pupil, school = pair
    return seating.would_go(pupil, school) and seating.would_take(school, pupil)
