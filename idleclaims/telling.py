"""The told pairs of a book, as rows that strike them one after the other."""

from idleclaims.arrows import fall_arrows_in, rise_arrows_in
from idleclaims.heights import heights_of
from idleclaims.ranks import ranks_in
from idleclaims.reasons import cold_in, down_in, rank_in, up_in
from idleclaims.seating import Seating
from idleclaims.walks import walk_of


def told_rows(book):
    """Rows with all told pairs of the book, each pair in the first row that strikes it.

    Striking some told pairs leaves the other rows right: dealings stay plain, arrows and followers
    only become fewer.
    """
    gone = {}
    rows = []
    for reason, dealing, marks, pairs in _struck_rows(book):
        fresh = tuple([pair for pair in pairs if pair not in gone])
        for pair in fresh:
            gone[pair] = True
        if fresh:
            rows.append((reason, dealing, marks, fresh))
    return rows


def pairs_in(rows):
    """The set of all pairs of these rows."""
    return tuple(sorted([pair for row in rows for pair in row[3]]))


def _struck_rows(book):
    """What each reason strikes; "cold" strikes along one walk what it strikes at all plain dealings."""
    walk = walk_of(book)
    rows = [("cold", dealing, (), cold_in(Seating(book, dealing))) for dealing in walk]
    first, last = walk[0], walk[len(walk) - 1]
    above, below = Seating(book, first), Seating(book, last)
    heights = heights_of(book, rise_arrows_in(above))
    rows.append(("up", first, heights, up_in(above, heights)))
    heights = heights_of(book, fall_arrows_in(below))
    rows.append(("down", last, heights, down_in(below, heights)))
    ranks = ranks_in(below)
    rows.append(("rank", last, ranks, rank_in(below, ranks)))
    return rows
