"""Who wants whom at a plain dealing, and the arrows between the schools."""

from idleclaims.bookparts import listed_pairs
from idleclaims.checking import need_plain
from idleclaims.seating import Seating


def rises_at(book, plain):
    """The set of the pairs of which the pupil wants the school."""
    need_plain(book, plain)
    return rises_in(Seating(book, plain))


def falls_at(book, plain):
    """The set of the pairs of which the school wants the pupil."""
    need_plain(book, plain)
    return falls_in(Seating(book, plain))


def rise_arrows(book, plain):
    """The set of the arrows from places to the schools that are wanted."""
    need_plain(book, plain)
    return rise_arrows_in(Seating(book, plain))


def fall_arrows(book, plain):
    """The set of the arrows from places to full schools that want, behind them on the lists."""
    need_plain(book, plain)
    return fall_arrows_in(Seating(book, plain))


def rises_in(seating):
    pairs = listed_pairs(seating.book)
    return tuple([(pupil, school) for pupil, school in pairs if seating.would_go(pupil, school)])


def falls_in(seating):
    pairs = listed_pairs(seating.book)
    return tuple([(pupil, school) for pupil, school in pairs if seating.would_take(school, pupil)])


def rise_arrows_in(seating):
    placed = [pair for pair in rises_in(seating) if seating.place(pair[0]) is not None]
    return _arrows_of(seating, placed)


def fall_arrows_in(seating):
    # At a plain dealing a wanted pupil is placed and likes its place more.
    return _arrows_of(seating, [pair for pair in falls_in(seating) if _is_between_full(seating, pair)])


def _is_between_full(seating, pair):
    pupil, school = pair
    return seating.is_full(seating.place(pupil)) and seating.is_full(school)


def _arrows_of(seating, pairs):
    return tuple(sorted({(seating.place(pupil), school) for pupil, school in pairs}))
