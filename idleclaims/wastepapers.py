"""Papers that show that a plain dealing is, or is not, the best one."""

from idleclaims.arrows import rise_arrows_in
from idleclaims.checking import need_plain
from idleclaims.errors import InvalidPaper
from idleclaims.exchangerings import is_ring
from idleclaims.heights import are_heights, heights_of
from idleclaims.seating import Seating
from idleclaims.waste import wasted_ring


def waste_paper(book, plain):
    """A ring along which pupils of plain gain; if there is none, heights that rise along each rise arrow."""
    ring = wasted_ring(book, plain)
    if ring is not None:
        return ("ring", ring)
    return ("heights", heights_of(book, rise_arrows_in(Seating(book, plain))))


def lets_waste(book, plain, thing):
    """True if the paper shows that plain is not the best dealing, False if it shows that it is."""
    need_plain(book, plain)
    if not isinstance(thing, tuple) or len(thing) != 2 or thing[0] not in ("ring", "heights"):
        raise InvalidPaper("shape", -1)
    word, told = thing
    seating = Seating(book, plain)
    if word == "ring":
        if not _is_wanted_ring(seating, told):
            raise InvalidPaper("ring", 1)
        return True
    if not _are_rising(seating, told):
        raise InvalidPaper("heights", 1)
    return False


def _is_wanted_ring(seating, thing):
    """Is thing a ring each pupil of which wants the school of its pair?"""
    if not is_ring(seating.book, seating.dealing, thing):
        return False
    return all(seating.would_go(pupil, school) for pupil, school in thing)


def _are_rising(seating, thing):
    """Is thing heights of the rise arrows whose number rises along each of them?"""
    arrows = rise_arrows_in(seating)
    return are_heights(seating.book, arrows, thing) and all(thing[start] < thing[end] for start, end in arrows)
