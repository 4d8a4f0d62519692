"""Towers: books with one level more for each storey."""

from idleclaims.checking import need
from idleclaims.kinds import is_integer

MOST_STOREYS = 4


def tower(many):
    """The tower with so many storeys."""
    need(is_integer(many) and 1 <= many <= MOST_STOREYS, "many")
    wishes, rolls = [], []
    for storey in range(many):
        # Pupils p, r, x and schools A, B, X of a storey have the same three numbers.
        one, two, three = 3 * storey, 3 * storey + 1, 3 * storey + 2
        wishes += [(two, three + 3, one), (one, one - 3, two), (one, three)]
        rolls += [(one, three, two, two + 3), (two, one), (three, one - 3)]
    return (_there(wishes, 3 * many), _there(rolls, 3 * many), tuple([1 for _ in rolls]))


def _there(lists, many):
    """The lists without the numbers of storeys that are not there."""
    return tuple([tuple([number for number in listed if 0 <= number < many]) for listed in lists])
