"""Told pairs and loose pairs."""

from idleclaims.bookparts import listed_pairs
from idleclaims.checking import need, need_one_seat
from idleclaims.kinds import is_pair
from idleclaims.numbering import all_dealings
from idleclaims.seating import claims_in
from idleclaims.telling import pairs_in, told_rows


def told_pairs(book):
    """The set of the told pairs."""
    return pairs_in(told_rows(book))


def told_by(book, pair):
    """The first reason that strikes the pair where told pairs are struck, or None."""
    need(is_pair(book, pair), "pair")
    for row in told_rows(book):
        if pair in row[3]:
            return row[0]
    return None


def is_loose(book, pair):
    """Is the pair loose, in a book with one seat each?"""
    need_one_seat(book)
    need(is_pair(book, pair), "pair")
    # With one seat each all loose pairs are told.
    return pair in told_pairs(book)


def loose_by_all(book):
    """The set of the loose pairs, by going through all dealings."""
    judged = [(dealing, claims_in(book, dealing)) for dealing in all_dealings(book)]
    plain = {pair: True for dealing, claims in judged if not claims for pair in dealing}
    kept = {}
    for dealing, claims in judged:
        if not any([pair in plain for pair in claims]):
            for pair in dealing:
                kept[pair] = True
    return tuple([pair for pair in listed_pairs(book) if pair not in kept])
