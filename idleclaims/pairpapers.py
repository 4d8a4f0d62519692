"""Papers that show that a pair is idle, or that it is rightful."""

from idleclaims.checking import is_plain_dealing, need
from idleclaims.errors import InvalidPaper
from idleclaims.kinds import is_pair
from idleclaims.rightful import rightful_with
from idleclaims.stepchecker import lets_steps
from idleclaims.stepmakers import steps_of, steps_to


def idle_paper(book, pair):
    """A paper that shows that this idle pair is idle."""
    need(is_pair(book, pair), "pair")
    return ("idle", steps_to(book, pair))


def rightful_paper(book, pair):
    """A paper that shows that this rightful pair is rightful."""
    need(is_pair(book, pair), "pair")
    dealing = rightful_with(book, pair)
    need(dealing is not None, "pair")
    return ("rightful", steps_of(book), dealing)


def pair_paper(book, pair):
    """A paper that shows what the pair is."""
    need(is_pair(book, pair), "pair")
    if rightful_with(book, pair) is None:
        return idle_paper(book, pair)
    return rightful_paper(book, pair)


def lets_pair_paper(book, pair, thing):
    """What the paper shows of the pair: "idle" or "rightful"."""
    need(is_pair(book, pair), "pair")
    if not _has_shape(thing):
        raise InvalidPaper("shape", -1)
    rows = thing[1]
    left = lets_steps(book, rows)
    if thing[0] == "idle":
        if not any(pair in row[3] for row in rows):
            raise InvalidPaper("struck", -1)
        return "idle"
    if not is_plain_dealing(left, thing[2]):
        raise InvalidPaper("dealing", -1)
    if pair not in thing[2]:
        raise InvalidPaper("held", -1)
    return "rightful"


def _has_shape(thing):
    if not isinstance(thing, tuple):
        return False
    return len(thing) == 2 and thing[0] == "idle" or len(thing) == 3 and thing[0] == "rightful"
