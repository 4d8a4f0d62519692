"""A desk that answers lines about a book by lines."""

from idleclaims.bestunder import best_without
from idleclaims.booklines import dealing_line, dealing_told
from idleclaims.checking import need
from idleclaims.errors import InvalidRow, InvalidText
from idleclaims.kinds import is_pair, is_pupil, is_school
from idleclaims.ladder import level_of
from idleclaims.numerals import fields_of, is_numeral, pairs_told
from idleclaims.objections import objecting_pairs
from idleclaims.rightful import rightful_level
from idleclaims.waivers import is_waiver


def answered_line(book, text):
    """The answer to a line that begins with "pair", "dealing" or "waive"."""
    need(isinstance(text, str), "text")
    word, _, rest = text.partition(" ")
    if word == "pair":
        return _pair_answer(book, fields_of(text))
    if word == "dealing":
        return _dealing_answer(book, rest)
    if word == "waive":
        return _waive_answer(book, rest)
    raise InvalidText(0, 0)


def _pair_answer(book, fields):
    """Is the pair of the second and the third field rightful, idle, or none?"""
    for field in (1, 2):
        if field >= len(fields) or not is_numeral(fields[field]):
            raise InvalidText(0, field)
    if len(fields) > 3:
        raise InvalidText(0, 3)
    pupil, school = int(fields[1]), int(fields[2])
    if not is_pupil(book, pupil):
        raise InvalidRow(1)
    if not is_school(book, school):
        raise InvalidRow(2)
    if not is_pair(book, (pupil, school)):
        return "none"
    level = level_of(book, (pupil, school))
    return "rightful" if level is None else f"idle {level}"


def _dealing_answer(book, rest):
    """Is the dealing that stands behind the word rightful, or which rightful pair claims against it?"""
    dealing = dealing_told(book, rest, 1)
    level = rightful_level(book, dealing)
    if level is not None:
        return f"rightful {level}"
    pupil, school = objecting_pairs(book, dealing)[0]
    return f"claimed {pupil}-{school}"


def _waive_answer(book, rest):
    """The line of the best dealing if the pairs that stand behind the word are waived."""
    pairs = pairs_told(rest, 1)
    for row in range(len(pairs)):
        if not is_waiver(book, pairs[:row + 1]):
            raise InvalidRow(row + 1)
    return dealing_line(book, best_without(book, pairs))
