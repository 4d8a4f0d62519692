"""Rings of pairs along which pupils change their places."""

from idleclaims.checking import need
from idleclaims.exchange import exchanged
from idleclaims.kinds import is_dealing, is_pair


def led(book, dealing, ring):
    """The dealing in which each pupil of the ring has the school of its pair."""
    need(is_dealing(book, dealing), "dealing")
    need(is_ring(book, dealing, ring), "ring")
    return led_along(dealing, ring)


def rings_of(book, plain, dealing):
    """Rings at plain, no pupil in two of them, with the pairs of dealing that plain lacks."""
    exchanged(book, plain, dealing)
    places = dict(plain)
    left = [pair for pair in dealing if pair not in plain]
    rings = []
    while left:
        ring = _ring_out_of(places, left)
        rings.append(ring)
        left = [pair for pair in left if pair not in ring]
    return tuple(rings)


def is_ring(book, dealing, thing):
    """Is thing a ring at this dealing?"""
    if not isinstance(thing, tuple) or not thing or not all(is_pair(book, pair) for pair in thing):
        return False
    places = dict(dealing)
    pupils = [pupil for pupil, _ in thing]
    if len(set(pupils)) != len(pupils) or not all(pupil in places for pupil in pupils):
        return False
    following = thing[1:] + thing[:1]
    return all(pair not in dealing and pair[1] == places[after] for pair, (after, _) in zip(thing, following))


def led_along(dealing, ring):
    """The dealing made along a ring at it."""
    moves = dict(ring)
    return tuple([(pupil, moves.get(pupil, school)) for pupil, school in dealing])


def _ring_out_of(places, pairs):
    """A ring of some of these pairs; each school must give as many of their pupils as it gets."""
    ring = [pairs[0]]
    first, here = places[pairs[0][0]], pairs[0][1]
    while here != first:
        # What comes to a school leaves it as often: the ring can always go on until it closes.
        following = [pair for pair in pairs if places[pair[0]] == here and pair not in ring]
        ring.append(following[0])
        here = following[0][1]
    return tuple(ring)
