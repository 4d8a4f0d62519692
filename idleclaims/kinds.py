"""What kind of value a thing is; nothing here raises an error for a thing."""


def is_integer(thing):
    return isinstance(thing, int) and not isinstance(thing, bool)


def is_number(thing):
    return is_integer(thing) and thing >= 0


def is_below(thing, many):
    """Is thing a number below many?"""
    return is_number(thing) and thing < many


def is_pupil(book, thing):
    return is_below(thing, len(book[0]))


def is_school(book, thing):
    return is_below(thing, len(book[1]))


def is_set_below(thing, many):
    """Is thing a set of numbers below many?"""
    return isinstance(thing, tuple) and all(is_below(value, many) for value in thing) and is_ascending(thing)


def is_each_once(thing, many):
    """Is thing a tuple of all numbers below many, each once?"""
    if not isinstance(thing, tuple) or not all(is_below(value, many) for value in thing):
        return False
    return sorted(thing) == list(range(many))


def is_ascending(values):
    """Does each value stand ahead of a greater one? The values must be comparable."""
    return all(one < other for one, other in zip(values, values[1:]))


def is_book(thing):
    if not _is_triple_of_tuples(thing):
        return False
    wishes, rolls, seats = thing
    if len(rolls) != len(seats):
        return False
    if not _are_lists(wishes, len(rolls)) or not _are_lists(rolls, len(wishes)):
        return False
    return all(is_integer(many) and many >= 1 for many in seats) and _is_sided(wishes, rolls)


def is_pair(book, thing):
    if not isinstance(thing, tuple) or len(thing) != 2:
        return False
    pupil, school = thing
    return is_pupil(book, pupil) and is_number(school) and school in book[0][pupil]


def is_pairs(book, thing):
    return isinstance(thing, tuple) and all(is_pair(book, pair) for pair in thing) and is_ascending(thing)


def is_dealing(book, thing):
    if not is_pairs(book, thing):
        return False
    pupils = [pupil for pupil, _ in thing]
    schools = [school for _, school in thing]
    return is_ascending(pupils) and all(schools.count(school) <= book[2][school] for school in schools)


def _is_triple_of_tuples(thing):
    return isinstance(thing, tuple) and len(thing) == 3 and all(isinstance(part, tuple) for part in thing)


def _are_lists(lists, many):
    """Is each of these a list of different numbers below many?"""
    return all(_is_list(entries, many) for entries in lists)


def _is_list(entries, many):
    if not isinstance(entries, tuple) or not all(is_below(entry, many) for entry in entries):
        return False
    return len(set(entries)) == len(entries)


def _is_sided(wishes, rolls):
    """Is a school on a pupil's list exactly if the pupil is on the school's?"""
    wished = [(pupil, school) for pupil, wish in enumerate(wishes) for school in wish]
    rolled = [(pupil, school) for school, roll in enumerate(rolls) for pupil in roll]
    return sorted(wished) == sorted(rolled)
