"""The followers of schools at a plain dealing, and ranks by them."""

from idleclaims.checking import need, need_plain
from idleclaims.kinds import is_number, is_school
from idleclaims.seating import Seating


def followers_of(book, plain, school):
    """The set of the followers of the school."""
    need_plain(book, plain)
    need(is_school(book, school), "school")
    return followers_in(Seating(book, plain), school)


def told_ranks(book, plain):
    """For each school 1 more than the greatest of its followers, 0 without any; None where that never ends."""
    need_plain(book, plain)
    return ranks_in(Seating(book, plain))


def lets_ranks(book, plain, thing):
    """Is thing ranks at plain?"""
    need_plain(book, plain)
    return are_ranks(Seating(book, plain), thing)


def followers_in(seating, school):
    if not seating.is_full(school):
        return ()
    pupil = seating.least_held(school)
    wish = seating.wishes[pupil]
    behind = sorted(wish[wish.index(school) + 1:])
    return tuple([other for other in behind if seating.is_full(other) and seating.would_take(other, pupil)])


def ranks_in(seating):
    """The told ranks at this plain dealing."""
    followers = [followers_in(seating, school) for school in range(len(seating.rolls))]
    ranks = {}
    ready = [school for school, others in enumerate(followers) if not others]
    while ready:
        for school in ready:
            ranks[school] = max([ranks[other] + 1 for other in followers[school]], default=0)
        ready = [
            school
            for school, others in enumerate(followers)
            if school not in ranks and all([other in ranks for other in others])
        ]
    return tuple([ranks.get(school) for school in range(len(followers))])


def are_ranks(seating, thing):
    """Is thing ranks at this plain dealing?"""
    if not isinstance(thing, tuple) or len(thing) != len(seating.rolls):
        return False
    if not all(rank is None or is_number(rank) for rank in thing):
        return False
    ranked = [school for school, rank in enumerate(thing) if rank is not None]
    return all(_is_above(thing, thing[school], followers_in(seating, school)) for school in ranked)


def _is_above(ranks, rank, followers):
    return all(ranks[other] is not None and ranks[other] < rank for other in followers)
