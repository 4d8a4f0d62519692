"""A waiver of idle pairs that can change, as an object."""

from idleclaims.best import best_deal
from idleclaims.bestunder import best_without, place_under
from idleclaims.checking import need
from idleclaims.idlechecks import need_waived
from idleclaims.kinds import is_pairs
from idleclaims.prices import is_prices, price_of_pairs
from idleclaims.waivers import claims_left, is_allowed


class Waiver:
    """A book with a set of waived idle pairs; each method answers by the pairs that are waived then."""

    def __init__(self, book, waived):
        need_waived(book, waived)
        self.book = book
        self.waived = waived

    def waive(self, pairs):
        """Waives these idle pairs besides."""
        self.waived = self._with(pairs)

    def claim(self, pairs):
        """Waives these pairs no longer."""
        need(is_pairs(self.book, pairs), "pairs")
        self.waived = tuple([pair for pair in self.waived if pair not in pairs])

    def widened(self, pairs):
        """A new Waiver with these idle pairs waived besides."""
        return Waiver(self.book, self._with(pairs))

    def marked(self):
        """The set of the waived pairs."""
        return self.waived

    def left(self, dealing):
        """The set of the claims left against the dealing."""
        return claims_left(self.book, self.waived, dealing)

    def lets(self, dealing):
        """Is no claim left against the dealing?"""
        return is_allowed(self.book, self.waived, dealing)

    def best(self):
        """The best dealing under the waiver."""
        return best_without(self.book, self.waived)

    def gets(self, pupil):
        """The pupil's place in the best dealing under the waiver, or None."""
        return place_under(self.book, self.waived, pupil)

    def does_all(self):
        """Is the best dealing under the waiver the best dealing of the book?"""
        return self.best() == best_deal(self.book)

    def cost(self, prices):
        """The total of the prices of the waived pairs."""
        need(is_prices(self.book, prices), "prices")
        return price_of_pairs(self.book, prices, self.waived)

    def _with(self, pairs):
        """The set of the waived pairs and these idle pairs."""
        need_waived(self.book, pairs, "pairs")
        return tuple(sorted(self.waived + tuple([pair for pair in pairs if pair not in self.waived])))
