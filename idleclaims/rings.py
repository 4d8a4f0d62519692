"""Rings along rise arrows, and rings along fall arrows."""

from idleclaims.arrows import falls_in, rises_in
from idleclaims.checking import need, need_plain
from idleclaims.kinds import is_pair
from idleclaims.seating import Seating


def rise_ring(book, plain, pair):
    """A ring that begins with the pair, of pairs whose pupils want their schools, or None."""
    need_plain(book, plain)
    need(is_pair(book, pair), "pair")
    seating = Seating(book, plain)
    return _ring_from(seating, rises_in(seating), pair)


def fall_ring(book, plain, pair):
    """A ring that begins with the pair, of pairs whose full schools want their pupils, or None."""
    need_plain(book, plain)
    need(is_pair(book, pair), "pair")
    seating = Seating(book, plain)
    wanting = [(pupil, school) for pupil, school in falls_in(seating) if seating.is_full(school)]
    return _ring_from(seating, wanting, pair)


def any_rise_ring(book, plain):
    """A ring of pairs whose pupils want their schools, or None."""
    need_plain(book, plain)
    seating = Seating(book, plain)
    rises = rises_in(seating)
    for pair in rises:
        ring = _ring_from(seating, rises, pair)
        if ring is not None:
            return ring
    return None


def _ring_from(seating, pairs, first):
    """A shortest ring of some of these pairs that begins with the first one, or None."""
    pupil, school = first
    goal = seating.place(pupil)
    if first not in pairs or goal is None:
        return None
    ways = {school: (first,)}
    waiting = [school]
    at = 0
    while at < len(waiting) and goal not in ways:
        here = waiting[at]
        for other, there in pairs:
            if seating.place(other) == here and there not in ways:
                ways[there] = ways[here] + ((other, there),)
                waiting.append(there)
        at += 1
    return ways.get(goal)
