"""Heights of arrows: numbers for the schools that fall along no arrow."""

from idleclaims.checking import need
from idleclaims.kinds import is_ascending, is_number, is_school


def told_heights(book, arrows):
    """How many schools lead to each school, itself among them."""
    need(_are_arrows(book, arrows), "arrows")
    return heights_of(book, arrows)


def lets_heights(book, arrows, thing):
    """Is thing heights of these arrows?"""
    need(_are_arrows(book, arrows), "arrows")
    return are_heights(book, arrows, thing)


def is_strict(book, arrows, heights):
    """Do these heights rise along each arrow?"""
    need(_are_arrows(book, arrows), "arrows")
    need(are_heights(book, arrows, heights), "heights")
    return all(heights[start] < heights[end] for start, end in arrows)


def heights_of(book, arrows):
    """The told heights of arrows that are right already."""
    return tuple([len(_leading_to(arrows, school)) for school in range(len(book[1]))])


def are_heights(book, arrows, thing):
    """Is thing heights of arrows that are right already?"""
    if not isinstance(thing, tuple) or len(thing) != len(book[1]):
        return False
    if not all(is_number(height) for height in thing):
        return False
    return all(thing[start] <= thing[end] for start, end in arrows)


def _leading_to(arrows, school):
    found = [school]
    at = 0
    while at < len(found):
        for start, end in arrows:
            if end == found[at] and start not in found:
                found.append(start)
        at += 1
    return found


def _are_arrows(book, thing):
    return isinstance(thing, tuple) and all(_is_arrow(book, arrow) for arrow in thing) and is_ascending(thing)


def _is_arrow(book, thing):
    if not isinstance(thing, tuple) or len(thing) != 2:
        return False
    start, end = thing
    return is_school(book, start) and is_school(book, end) and start != end
