"""Books made of books."""

from idleclaims.bookparts import listed_pairs, struck_book
from idleclaims.checking import need, need_one_seat
from idleclaims.kinds import is_book, is_each_once, is_pairs


def without_pairs(book, pairs):
    """The book without these pairs."""
    need(is_pairs(book, pairs), "pairs")
    return struck_book(book, pairs)


def side_by_side(book, other):
    """The book with all of book and, counted on behind it, all of other."""
    need(is_book(other), "other")
    wishes = book[0] + _counted_on(other[0], len(book[1]))
    rolls = book[1] + _counted_on(other[1], len(book[0]))
    return (wishes, rolls, book[2] + other[2])


def is_shorter(book, thing):
    """Is thing the book without some of its pairs, or without none?"""
    if not is_book(thing):
        return False
    left = listed_pairs(thing)
    return thing == struck_book(book, [pair for pair in listed_pairs(book) if pair not in left])


def sides_changed(book):
    """The book in which pupils and schools change places, with one seat for each new school."""
    need_one_seat(book)
    wishes, rolls, _ = book
    return (tuple(rolls), tuple(wishes), tuple([1 for _ in wishes]))


def renamed(book, pupils, schools):
    """The book in which each pupil and each school has its new number."""
    need(is_each_once(pupils, len(book[0])), "pupils")
    need(is_each_once(schools, len(book[1])), "schools")
    wishes = [_called(wish, schools) for wish in book[0]]
    rolls = [_called(roll, pupils) for roll in book[1]]
    return (_moved_to(wishes, pupils), _moved_to(rolls, schools), _moved_to(book[2], schools))


def _counted_on(lists, many):
    """These lists with each number greater by many."""
    return tuple([tuple([number + many for number in numbers]) for numbers in lists])


def _called(numbers, names):
    return tuple([names[number] for number in numbers])


def _moved_to(values, numbers):
    """The tuple in which each of the values stands at its new number."""
    moved = {number: value for number, value in zip(numbers, values)}
    return tuple([moved[number] for number in range(len(values))])
