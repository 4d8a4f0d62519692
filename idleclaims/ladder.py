"""The ladder of a book: each level is the one ahead without its told pairs."""

from idleclaims.bookparts import struck_book
from idleclaims.checking import need
from idleclaims.kinds import is_below, is_pair
from idleclaims.loose import told_pairs


def ladder_of(book):
    """The tuple of the books of all levels, level 0 first."""
    levels = [book]
    told = told_pairs(book)
    while told:
        left = struck_book(levels[len(levels) - 1], told)
        levels.append(left)
        told = told_pairs(left)
    return tuple(levels)


def how_many_levels(book):
    """The number of the last level."""
    return len(ladder_of(book)) - 1


def level_book(book, level):
    """The book of this level."""
    levels = ladder_of(book)
    need(is_below(level, len(levels)), "level")
    return levels[level]


def level_of(book, pair):
    """The number of the last level that has this idle pair; None for a rightful one."""
    need(is_pair(book, pair), "pair")
    pupil, school = pair
    levels = ladder_of(book)
    having = [level for level in levels if school in level[0][pupil]]
    return None if len(having) == len(levels) else len(having) - 1
