"""The kinds of the pairs of a book."""

from idleclaims.arrows import falls_in, rises_in
from idleclaims.bookparts import listed_pairs
from idleclaims.checking import need
from idleclaims.kinds import is_pair
from idleclaims.seating import Seating
from idleclaims.walks import walk_of

KINDS = ("plain", "rise", "fall", "cold")


def kind_of(book, pair):
    """The kind of the pair."""
    need(is_pair(book, pair), "pair")
    return _kinds(book)[pair]


def kinds_of(book):
    """The pairs of the kinds "plain", "rise", "fall", "cold", a set of each."""
    kinds = _kinds(book)
    return tuple([tuple([pair for pair in kinds if kinds[pair] == kind]) for kind in KINDS])


def _kinds(book):
    """The kind of each pair, ascending; one walk has all pairs that are in plain dealings."""
    walk = walk_of(book)
    kinds = {pair: "cold" for pair in listed_pairs(book)}
    for pair in rises_in(Seating(book, walk[0])):
        kinds[pair] = "rise"
    for pair in falls_in(Seating(book, walk[len(walk) - 1])):
        kinds[pair] = "fall"
    for dealing in walk:
        for pair in dealing:
            kinds[pair] = "plain"
    return kinds
