"""What the four reasons strike at a plain dealing."""

from idleclaims.arrows import fall_arrows_in, falls_in, rise_arrows_in, rises_in
from idleclaims.bookparts import listed_pairs
from idleclaims.checking import need, need_plain
from idleclaims.heights import are_heights, heights_of
from idleclaims.ranks import are_ranks, ranks_in
from idleclaims.seating import Seating


def struck_cold(book, plain):
    """The set of the pairs of which neither wants the other."""
    need_plain(book, plain)
    return cold_in(Seating(book, plain))


def struck_up(book, plain, heights):
    """The set of the pairs that "up" strikes with these heights of the rise arrows."""
    need_plain(book, plain)
    seating = Seating(book, plain)
    need(are_heights(book, rise_arrows_in(seating), heights), "heights")
    return up_in(seating, heights)


def struck_down(book, plain, heights):
    """The set of the pairs that "down" strikes with these heights of the fall arrows."""
    need_plain(book, plain)
    seating = Seating(book, plain)
    need(are_heights(book, fall_arrows_in(seating), heights), "heights")
    return down_in(seating, heights)


def struck_rank(book, plain, ranks):
    """The set of the pairs that "rank" strikes with these ranks."""
    need_plain(book, plain)
    seating = Seating(book, plain)
    need(are_ranks(seating, ranks), "ranks")
    return rank_in(seating, ranks)


def are_marks(seating, reason, thing):
    """Is thing marks of this reason at this plain dealing?"""
    if reason == "up":
        return are_heights(seating.book, rise_arrows_in(seating), thing)
    if reason == "down":
        return are_heights(seating.book, fall_arrows_in(seating), thing)
    if reason == "rank":
        return are_ranks(seating, thing)
    return thing == ()


def told_marks(seating, reason):
    """The told heights or the told ranks of this reason; "cold" has no marks."""
    if reason == "up":
        return heights_of(seating.book, rise_arrows_in(seating))
    if reason == "down":
        return heights_of(seating.book, fall_arrows_in(seating))
    return ranks_in(seating) if reason == "rank" else ()


def struck_in(seating, reason, marks):
    """The set of the pairs that the reason strikes with these marks."""
    if reason == "up":
        return up_in(seating, marks)
    if reason == "down":
        return down_in(seating, marks)
    return rank_in(seating, marks) if reason == "rank" else cold_in(seating)


def cold_in(seating):
    wanted = {pair: True for pair in rises_in(seating) + falls_in(seating)}
    lacking = [pair for pair in listed_pairs(seating.book) if seating.place(pair[0]) != pair[1]]
    return tuple([pair for pair in lacking if pair not in wanted])


def up_in(seating, heights):
    return tuple([pair for pair in rises_in(seating) if _is_up(seating, heights, pair)])


def down_in(seating, heights):
    # At a plain dealing a wanted pupil likes its place more than the school that wants it.
    return tuple([pair for pair in falls_in(seating) if _is_down(seating, heights, pair)])


def rank_in(seating, ranks):
    return tuple([pair for pair in falls_in(seating) if ranks[pair[1]] is not None])


def _is_up(seating, heights, pair):
    pupil, school = pair
    place = seating.place(pupil)
    return place is None or heights[school] > heights[place]


def _is_down(seating, heights, pair):
    pupil, school = pair
    place = seating.place(pupil)
    if not seating.is_full(school) or not seating.is_full(place):
        return True
    return heights[school] > heights[place]
