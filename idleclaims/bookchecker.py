"""The checker of books."""

from idleclaims.errors import InvalidPaper
from idleclaims.kinds import is_below, is_integer


def lets_book(thing):
    """How many pupils and how many schools the book thing has."""
    if not isinstance(thing, tuple) or len(thing) != 3:
        raise InvalidPaper("shape", -1)
    for at, word in enumerate(("wishes", "rolls", "seats")):
        if not isinstance(thing[at], tuple):
            raise InvalidPaper(word, at)
    wishes, rolls, seats = thing
    if len(rolls) != len(seats):
        raise InvalidPaper("many", -1)
    _let_lists(wishes, len(rolls), 0, "wish")
    _let_lists(rolls, len(wishes), 1, "roll")
    for school, many in enumerate(seats):
        if not is_integer(many) or many < 1:
            raise InvalidPaper("seat", school)
    _let_sides(wishes, rolls)
    return (len(wishes), len(rolls))


def _let_lists(lists, many, part, word):
    """Each of the lists of this part of the book must have different numbers below many."""
    for owner, listed in enumerate(lists):
        if not isinstance(listed, tuple):
            raise InvalidPaper("list", (part, owner))
        for place, entry in enumerate(listed):
            if not is_below(entry, many) or entry in listed[:place]:
                raise InvalidPaper(word, (owner, place))


def _let_sides(wishes, rolls):
    wished = [(pupil, school) for pupil, wish in enumerate(wishes) for school in wish]
    rolled = [(pupil, school) for school, roll in enumerate(rolls) for pupil in roll]
    one_sided = sorted(set(wished) ^ set(rolled))
    if one_sided:
        raise InvalidPaper("sided", one_sided[0])
