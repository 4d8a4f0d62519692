"""The better and the worse places of two plain dealings."""

from idleclaims.bookparts import better_of, worse_of
from idleclaims.checking import need_plain


def better_plain(book, plain, other):
    """The plain dealing in which each pupil has the one of its two places that it likes more."""
    need_plain(book, plain)
    need_plain(book, other, "other")
    return better_of(book, plain, other)


def worse_plain(book, plain, other):
    """The plain dealing in which each pupil has the one of its two places that it likes less."""
    need_plain(book, plain)
    need_plain(book, other, "other")
    return worse_of(book, plain, other)
