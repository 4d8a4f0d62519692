"""Told pairs struck from a book by hand."""

from idleclaims.checking import need
from idleclaims.errors import NothingToUndo
from idleclaims.kinds import is_number
from idleclaims.loose import told_pairs
from idleclaims.striking import strike_all
from idleclaims.telling import told_rows


class Ladder:
    """A book from which told pairs are struck; at first there is no striking."""

    def __init__(self, book):
        # The book ahead of all strikings, then the one behind each; and the pairs of each striking.
        self.books = [book]
        self.strikings = []

    def left(self):
        """The book left."""
        return self.books[len(self.books) - 1]

    def struck(self):
        """The set of the pairs of each striking."""
        return tuple(self.strikings)

    def told(self):
        """The told pairs of the book left."""
        return told_pairs(self.left())

    def has_ended(self):
        """Has the book left no told pairs?"""
        return self.told() == ()

    def strike(self, pairs):
        """One striking, of these told pairs of the book left; none for ()."""
        left = strike_all(self.left(), pairs)
        if pairs:
            self.books.append(left)
            self.strikings.append(pairs)

    def go_down(self):
        """One striking, of all told pairs of the book left, if there are any; returns their set."""
        told = self.told()
        self.strike(told)
        return told

    def back(self, many):
        """Takes back the last strikings, so many."""
        need(is_number(many), "many")
        stay = len(self.strikings) - many
        if stay < 0:
            raise NothingToUndo(len(self.strikings))
        del self.strikings[stay:]
        del self.books[stay + 1:]

    def rows(self):
        """Rows that lead from the first book to the book left."""
        rows = []
        for book, pairs in zip(self.books, self.strikings):
            rows.extend(_rows_with(book, pairs))
        return tuple(rows)


def _rows_with(book, pairs):
    """Rows that strike these told pairs of the book and no others."""
    rows = []
    for reason, dealing, marks, told in told_rows(book):
        struck = tuple([pair for pair in told if pair in pairs])
        if struck:
            rows.append((reason, dealing, marks, struck))
    return rows
