"""Rings, by the words of the document."""

from tests import truth


def is_ring(book, dealing, thing):
    """Is thing a ring at this dealing?"""
    if type(thing) is not tuple or thing == ():
        return False
    if not all(type(p) is tuple and len(p) == 2 and all(type(n) is int for n in p) for p in thing):
        return False
    if not all(pair in truth.pairs(book) and pair not in dealing for pair in thing):
        return False
    pupils = [a for a, _ in thing]
    if len(set(pupils)) < len(pupils) or not all(truth.place(dealing, a) is not None for a in pupils):
        return False
    return all(thing[k][1] == truth.place(dealing, pupils[(k + 1) % len(pupils)]) for k in range(len(thing)))


def led(dealing, ring):
    """The dealing made along a ring."""
    moving = {a for a, _ in ring}
    return tuple(sorted([pair for pair in dealing if pair[0] not in moving] + list(ring)))


def leads(arrows, start, end):
    """Does a sequence of arrows lead from start to end?"""
    reached = {start}
    for _ in arrows:
        reached |= {there for here, there in arrows if here in reached}
    return end in reached


def all_rings(book, dealing, pairs, first):
    """All rings at the dealing, their schools different, of some of these pairs, that begin with the first one."""
    found = []

    def go_on(ring):
        if is_ring(book, dealing, ring):
            found.append(ring)
        for pair in pairs:
            if truth.place(dealing, pair[0]) == ring[-1][1] and pair[1] not in [b for _, b in ring]:
                go_on(ring + (pair,))

    if first in pairs:
        go_on((first,))
    return found
