"""Two books compared by their rightful dealings and pairs."""

from idleclaims.best import best_deal
from idleclaims.checking import need
from idleclaims.kinds import is_book
from idleclaims.lastbook import idle_pairs, rightful_pairs
from idleclaims.rightful import all_rightful


def same_rightful(book, other):
    """Have both books the same rightful dealings?"""
    need(is_book(other), "other")
    return sorted(all_rightful(book)) == sorted(all_rightful(other))


def changed_pairs(book, other):
    """The pairs rightful in other alone, in book alone; idle in other alone, in book alone."""
    need(is_book(other), "other")
    rightful, idle = rightful_pairs(book), idle_pairs(book)
    other_rightful, other_idle = rightful_pairs(other), idle_pairs(other)
    return (
        _lacking(other_rightful, rightful),
        _lacking(rightful, other_rightful),
        _lacking(other_idle, idle),
        _lacking(idle, other_idle),
    )


def moved_places(book, other):
    """Triples of a pupil of both books and its places in the best dealings, where these differ."""
    need(is_book(other), "other")
    one, two = dict(best_deal(book)), dict(best_deal(other))
    both = range(min(len(book[0]), len(other[0])))
    triples = [(pupil, one.get(pupil), two.get(pupil)) for pupil in both]
    return tuple([triple for triple in triples if triple[1] != triple[2]])


def _lacking(pairs, others):
    return tuple([pair for pair in pairs if pair not in others])
