"""The rightful dealings of a book, as an object."""

from idleclaims.best import best_deal, worst_deal
from idleclaims.joining import down_from, rightful_better, rightful_worse
from idleclaims.lastbook import idle_pairs
from idleclaims.objections import objecting_pairs
from idleclaims.rightful import all_rightful, how_many_rightful, is_rightful


class Rightful:
    """The rightful dealings of a book; it never changes."""

    def __init__(self, book):
        self.book = book

    def best(self):
        """The best dealing."""
        return best_deal(self.book)

    def worst(self):
        """The rightful dealing that each pupil likes at most as much as any other one."""
        return worst_deal(self.book)

    def idle(self):
        """The set of the idle pairs."""
        return idle_pairs(self.book)

    def how_many(self):
        return how_many_rightful(self.book)

    def each_rightful(self):
        """Generates the rightful dealings, in the sequence of all dealings."""
        yield from all_rightful(self.book)

    def holds(self, dealing):
        """Is the dealing rightful?"""
        return is_rightful(self.book, dealing)

    def objecting(self, dealing):
        """The set of the rightful pairs that claim against the dealing."""
        return objecting_pairs(self.book, dealing)

    def better(self, dealing, other):
        """The rightful dealing in which each pupil has the one of its two places that it likes more."""
        return rightful_better(self.book, dealing, other)

    def worse(self, dealing, other):
        """The rightful dealing in which each pupil has the one of its two places that it likes less."""
        return rightful_worse(self.book, dealing, other)

    def down(self, dealing):
        """The dealings made from this one on by the turnings in the last book that have the least pupil."""
        return down_from(self.book, dealing)
