"""Papers by which a dealing stands or falls: rows, and then a pair that claims, or none.

Each kind of paper has two words of its own: what it begins with if the dealing stands, and if it falls.
"""

from idleclaims.checking import is_plain_dealing, need
from idleclaims.errors import InvalidPaper
from idleclaims.kinds import is_dealing, is_pair
from idleclaims.objections import objection_to
from idleclaims.seating import claims_in
from idleclaims.stepchecker import lets_steps
from idleclaims.stepmakers import steps_of


def verdict_paper(book, dealing, stands, falls):
    """A paper that shows that the dealing is rightful, or that it is not."""
    objection = objection_to(book, dealing)
    rows = steps_of(book)
    if objection is None:
        return (stands, rows)
    pair, plain = objection
    return (falls, rows, plain, pair)


def let_verdict(book, dealing, thing, stands, falls):
    """Does the paper show that the dealing stands? Refuses a paper that shows nothing."""
    need(is_dealing(book, dealing), "dealing")
    if not _has_shape(thing, stands, falls):
        raise InvalidPaper("shape", -1)
    left = lets_steps(book, thing[1])
    if thing[0] == stands:
        if not is_plain_dealing(left, dealing):
            raise InvalidPaper("plain", -1)
        return True
    _, _, plain, pair = thing
    if not is_plain_dealing(left, plain):
        raise InvalidPaper("plain", 2)
    # True is not 1: what equals a pair of plain is one only if it consists of numbers.
    if not is_pair(left, pair) or pair not in plain:
        raise InvalidPaper("pair", 3)
    if pair not in claims_in(book, dealing):
        raise InvalidPaper("claim", 3)
    return False


def _has_shape(thing, stands, falls):
    if not isinstance(thing, tuple):
        return False
    return len(thing) == 2 and thing[0] == stands or len(thing) == 4 and thing[0] == falls
