"""Diaries of asking: who asks whom, time by time, and who is refused then."""

from idleclaims.askers import PupilsAsking, SchoolsAsking, can_ask, standing
from idleclaims.checking import need
from idleclaims.errors import InvalidPaper
from idleclaims.kinds import is_each_once, is_number, is_pair


def pupils_diary(book, order):
    """What happens if each time the first pupil in order that can ask asks."""
    need(is_each_once(order, len(book[0])), "order")
    return _diary(PupilsAsking(book), order)


def schools_diary(book, order):
    """What happens if each time the first school in order that can ask asks."""
    need(is_each_once(order, len(book[1])), "order")
    return _diary(SchoolsAsking(book), order)


def lets_pupils_diary(book, thing):
    """The dealing at the end of this diary of pupils that ask in any order."""
    return _let_diary(book, PupilsAsking(book), thing)


def lets_schools_diary(book, thing):
    """The dealing at the end of this diary of schools that ask in any order."""
    return _let_diary(book, SchoolsAsking(book), thing)


def _diary(asking, order):
    rows = []
    asker = _first_ready(asking, order)
    while asker is not None:
        pair = asking.next_pair(asker)
        rows.append(pair + (_refused_by(asking, asker),))
        asker = _first_ready(asking, order)
    return tuple(rows)


def _first_ready(asking, order):
    for asker in order:
        if can_ask(asking, asker):
            return asker
    return None


def _refused_by(asking, asker):
    """The asker asks: who of its side is refused then, or None."""
    out = asking.ask(asker)
    return None if out is None else out[asking.side]


def _let_diary(book, asking, thing):
    if not isinstance(thing, tuple):
        raise InvalidPaper("shape", -1)
    for k, row in enumerate(thing):
        if not isinstance(row, tuple) or len(row) != 3 or not is_pair(book, row[:2]):
            raise InvalidPaper("row", k)
        asker = row[asking.side]
        if not asking.is_free(asker):
            raise InvalidPaper("asker", k)
        if asking.next_pair(asker) != row[:2]:
            raise InvalidPaper("asked", k)
        if not _is_refused(row[2], _refused_by(asking, asker)):
            raise InvalidPaper("refused", k)
    if _first_ready(asking, list(range(len(book[asking.side])))) is not None:
        raise InvalidPaper("open", len(thing))
    return standing(asking)


def _is_refused(thing, refused):
    return thing is None if refused is None else is_number(thing) and thing == refused
