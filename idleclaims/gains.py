"""What the pupils gain if idle claims are not heard: from the pupils' dealing to the best dealing."""

from idleclaims.asking import pupils_deal
from idleclaims.best import best_deal
from idleclaims.exchangerings import rings_of


def gains_of(book):
    """Triples of a pupil and its places in the pupils' and in the best dealing, where it likes the latter more."""
    before = dict(pupils_deal(book))
    # Both dealings are rightful: they place the same pupils, and nobody likes the best one less.
    return tuple([(pupil, before[pupil], school) for pupil, school in best_deal(book) if before[pupil] != school])


def gain_rings(book):
    """Rings at the pupils' dealing that together lead to the best dealing."""
    return rings_of(book, pupils_deal(book), best_deal(book))
