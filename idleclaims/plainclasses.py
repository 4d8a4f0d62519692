"""The plain dealings of a book, gone through by turnings."""

from idleclaims.asking import pupils_deal, schools_deal
from idleclaims.pairkinds import kinds_of
from idleclaims.turning import turned, turnings_at
from idleclaims.walks import walk_of


class Plain:
    """What stands at a plain dealing of the book, at first at the pupils' dealing, and moves by turnings."""

    def __init__(self, book):
        self.book = book
        self.stops = [pupils_deal(book)]

    def first(self):
        """The pupils' dealing."""
        return pupils_deal(self.book)

    def last(self):
        """The schools' dealing."""
        return schools_deal(self.book)

    def walk(self):
        """The walk that turns each time along the turning with the least pupil."""
        return walk_of(self.book)

    def kinds(self):
        """The pairs of the four kinds."""
        return kinds_of(self.book)

    def here(self):
        """The dealing at which the object stands."""
        return self.stops[len(self.stops) - 1]

    def gone(self):
        """The dealings at which the object has stood, from the first one to here."""
        return tuple(self.stops)

    def turnings(self):
        """The set of the turnings here."""
        return turnings_at(self.book, self.here())

    def turn(self, turning):
        """Moves the object along this turning; returns where it then stands."""
        there = turned(self.book, self.here(), turning)
        self.stops.append(there)
        return there
