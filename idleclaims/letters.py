"""What a pupil is told of its list."""

from idleclaims.checking import need
from idleclaims.kinds import is_pupil
from idleclaims.ladder import level_of


def letter_of(book, pupil):
    """For each school of the pupil's list a triple: the school, is the pair rightful or idle, its level."""
    need(is_pupil(book, pupil), "pupil")
    return tuple([_told(school, level_of(book, (pupil, school))) for school in book[0][pupil]])


def letter_lines(book, pupil):
    """The letter as lines, the first one with how many schools are listed and how many pairs are rightful."""
    letter = letter_of(book, pupil)
    rightful = [school for school, word, _ in letter if word == "rightful"]
    head = f"pupil {pupil}: listed {len(letter)}, rightful {len(rightful)}"
    return (head,) + tuple([_line(row) for row in letter])


def _told(school, level):
    return (school, "rightful", None) if level is None else (school, "idle", level)


def _line(row):
    school, word, level = row
    return f"school {school}: {word}" if level is None else f"school {school}: {word}, level {level}"
