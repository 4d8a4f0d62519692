"""A book as an object."""

from idleclaims.bookchecker import lets_book
from idleclaims.booklines import book_lines, read_book
from idleclaims.books import pairs_of
from idleclaims.checking import need
from idleclaims.makers import side_by_side, without_pairs
from idleclaims.numbering import all_dealings
from idleclaims.wanting import claims_against


class Book:
    """A book; it never changes."""

    def __init__(self, wishes, rolls, seats):
        self.sizes = lets_book((wishes, rolls, seats))
        self.triple = (wishes, rolls, seats)

    def told(self):
        """The triple."""
        return self.triple

    def how_many(self):
        """How many pupils, how many schools."""
        return self.sizes

    def all_pairs(self):
        """The set of all pairs."""
        return pairs_of(self.triple)

    def as_lines(self):
        """The lines of the book."""
        return book_lines(self.triple)

    def each_dealing(self):
        """Generates all dealings."""
        yield from all_dealings(self.triple)

    @classmethod
    def of_lines(cls, lines):
        """The Book with these lines."""
        wishes, rolls, seats = read_book(lines)
        return cls(wishes, rolls, seats)

    def without(self, pairs):
        """A new Book without these pairs."""
        return _book_of(without_pairs(self.triple, pairs))

    def beside(self, other):
        """A new Book with this one and, counted on behind it, the other one."""
        need(isinstance(other, Book), "other")
        return _book_of(side_by_side(self.triple, other.triple))

    def claims(self, dealing):
        """The set of the pairs that claim against the dealing."""
        return claims_against(self.triple, dealing)

    def is_same(self, other):
        """Is other a Book of the same triple?"""
        return isinstance(other, Book) and other.triple == self.triple


def _book_of(triple):
    wishes, rolls, seats = triple
    return Book(wishes, rolls, seats)
