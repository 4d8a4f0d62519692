"""A hearing as an object."""

from idleclaims.answers import winning_answer
from idleclaims.checking import need
from idleclaims.errors import NothingToUndo
from idleclaims.kinds import is_dealing, is_number
from idleclaims.naming import is_nameable
from idleclaims.seating import claims_in


class Court:
    """A hearing of a book; at first a dealing lies on the table and nothing is named."""

    def __init__(self, book, dealing):
        need(is_dealing(book, dealing), "dealing")
        self.book = book
        # The dealing that lies on the table at first, then those that are named.
        self.hearing = [dealing]

    def name(self, other):
        """Whoever is to move names this dealing."""
        need(is_nameable(self.book, self.on_table(), other), "other")
        self.hearing.append(other)

    def answer(self):
        """Whoever is to move names what wins, which is returned; None if nothing does."""
        answer = winning_answer(self.book, self.on_table())
        if answer is not None:
            self.hearing.append(answer)
        return answer

    def back(self, many):
        """Takes back the last namings, so many."""
        need(is_number(many), "many")
        named = len(self.hearing) - 1
        if many > named:
            raise NothingToUndo(named)
        del self.hearing[named + 1 - many:]

    def on_table(self):
        """The dealing on the table."""
        return self.hearing[len(self.hearing) - 1]

    def namings(self):
        """The dealings that are named and not taken back."""
        return tuple(self.hearing[1:])

    def has_ended(self):
        """Can nothing be named?"""
        return claims_in(self.book, self.on_table()) == ()
