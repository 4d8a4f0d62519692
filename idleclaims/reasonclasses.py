"""What stands at a plain dealing, as an object."""

from idleclaims.arrows import falls_in, rises_in
from idleclaims.checking import need, need_plain
from idleclaims.kinds import is_pair
from idleclaims.ranks import ranks_in
from idleclaims.reasons import struck_in, told_marks
from idleclaims.seating import Seating
from idleclaims.stepkinds import REASONS
from idleclaims.turning import turned


class Standing:
    """A plain dealing of a book with what stands there; it never changes."""

    def __init__(self, book, plain):
        need_plain(book, plain)
        self.seating = Seating(book, plain)

    def told(self):
        """The book and the plain dealing."""
        return (self.seating.book, self.seating.dealing)

    def rises(self):
        """The set of the pairs of which the pupil wants the school."""
        return rises_in(self.seating)

    def falls(self):
        """The set of the pairs of which the school wants the pupil."""
        return falls_in(self.seating)

    def rise_heights(self):
        """The told heights of the rise arrows."""
        return told_marks(self.seating, "up")

    def fall_heights(self):
        """The told heights of the fall arrows."""
        return told_marks(self.seating, "down")

    def ranks(self):
        """The told ranks."""
        return ranks_in(self.seating)

    def struck(self):
        """What each of the four reasons strikes with told marks, a set of each."""
        return tuple([struck_in(self.seating, reason, told_marks(self.seating, reason)) for reason in REASONS])

    def struck_all(self):
        """The set of the pairs that some reason strikes with told marks."""
        return tuple(sorted({pair for pairs in self.struck() for pair in pairs}))

    def reasons_for(self, pair):
        """The reasons that strike the pair with told marks."""
        need(is_pair(self.seating.book, pair), "pair")
        return tuple([reason for reason, pairs in zip(REASONS, self.struck()) if pair in pairs])

    def turned(self, turning):
        """A new Standing at the dealing to which this turning leads."""
        book, plain = self.told()
        return Standing(book, turned(book, plain, turning))

    def is_same(self, other):
        """Is other a Standing of the same book and the same plain dealing?"""
        return isinstance(other, Standing) and other.told() == self.told()
