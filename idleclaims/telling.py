"""The told pairs of a book, as rows that strike them one after the other."""

from idleclaims.reasons import struck_in, told_marks
from idleclaims.seating import Seating
from idleclaims.walks import walk_of


def told_rows(book):
    """Rows with all told pairs of the book, each pair in the first row that strikes it.

    Striking some told pairs leaves the other rows right: dealings stay plain, arrows and followers
    only become fewer.
    """
    gone = {}
    rows = []
    for reason, dealing, marks, pairs in _struck_rows(book):
        fresh = tuple([pair for pair in pairs if pair not in gone])
        for pair in fresh:
            gone[pair] = True
        if fresh:
            rows.append((reason, dealing, marks, fresh))
    return rows


def pairs_in(rows):
    """The set of all pairs of these rows."""
    return tuple(sorted([pair for row in rows for pair in row[3]]))


def _struck_rows(book):
    """What each reason strikes; "cold" strikes along one walk what it strikes at all plain dealings."""
    walk = walk_of(book)
    last = len(walk) - 1
    rows = [_struck_row(book, "cold", dealing) for dealing in walk]
    return rows + [
        _struck_row(book, "up", walk[0]),
        _struck_row(book, "down", walk[last]),
        _struck_row(book, "rank", walk[last]),
    ]


def _struck_row(book, reason, dealing):
    seating = Seating(book, dealing)
    marks = told_marks(seating, reason)
    return (reason, dealing, marks, struck_in(seating, reason, marks))
