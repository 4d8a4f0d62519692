"""The turnings at a plain dealing."""

from idleclaims.checking import need, need_plain
from idleclaims.kinds import is_number, is_pupil
from idleclaims.seating import Seating


def next_school(book, plain, pupil):
    """The next school of the pupil, or None."""
    need_plain(book, plain)
    need(is_pupil(book, pupil), "pupil")
    return Seating(book, plain).next_for(pupil)


def points_to(book, plain, pupil):
    """The pupil to which this one points, or None."""
    need_plain(book, plain)
    need(is_pupil(book, pupil), "pupil")
    return Seating(book, plain).pointed_by(pupil)


def turnings_at(book, plain):
    """The set of the turnings at plain."""
    need_plain(book, plain)
    return turnings_in(Seating(book, plain))


def turned(book, plain, turning):
    """The dealing to which this turning leads."""
    need_plain(book, plain)
    seating = Seating(book, plain)
    # True is not 1: what equals a turning is one only if it consists of numbers.
    fine = isinstance(turning, tuple) and all(is_number(pupil) for pupil in turning)
    need(fine and turning in turnings_in(seating), "turning")
    return turned_in(seating, turning)


def turnings_in(seating):
    """The set of the turnings at this plain dealing."""
    points = [seating.pointed_by(pupil) for pupil in range(len(seating.wishes))]
    rings = [_ring_from(points, pupil) for pupil in range(len(points))]
    return tuple([ring for ring in rings if ring and ring[0] == min(ring)])


def turned_in(seating, turning):
    """The dealing to which this turning leads from this plain dealing."""
    moves = {pupil: seating.next_for(pupil) for pupil in turning}
    return tuple([(pupil, moves.get(pupil, school)) for pupil, school in seating.dealing])


def turned_from(book, plain):
    """The dealings made from this plain one by one turning, in the sequence of the turnings."""
    seating = Seating(book, plain)
    return [turned_in(seating, turning) for turning in turnings_in(seating)]


def _ring_from(points, pupil):
    """The ring of pointing pupils that begins with this pupil; () if it is on none."""
    ring = [pupil]
    here = points[pupil]
    while here is not None and here not in ring:
        ring.append(here)
        here = points[here]
    return tuple(ring) if here == pupil else ()
