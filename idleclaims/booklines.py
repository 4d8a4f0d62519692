"""Books and dealings as lines."""

from idleclaims.bookchecker import lets_book
from idleclaims.checking import need
from idleclaims.errors import InvalidRow, InvalidText
from idleclaims.kinds import is_dealing
from idleclaims.numerals import fields_of, is_numeral, pairs_told


def book_lines(book):
    """A line for each pupil, then one for each school."""
    wishes, rolls, seats = book
    pupils = [_line(f"pupil {pupil}:", wish) for pupil, wish in enumerate(wishes)]
    schools = [_line(f"school {school} x{seats[school]}:", roll) for school, roll in enumerate(rolls)]
    return tuple(pupils + schools)


def read_book(lines):
    """The book with these lines."""
    need(isinstance(lines, tuple) and all(isinstance(line, str) for line in lines), "lines")
    wishes, rolls, seats = [], [], []
    for line, text in enumerate(lines):
        fields = fields_of(text)
        if fields[0] == "school":
            seats.append(_seats_in(line, fields, len(rolls)))
            rolls.append(_numbers_from(line, fields, 3))
        elif fields[0] == "pupil" and not rolls:
            _need_field(line, fields, f"{len(wishes)}:")
            wishes.append(_numbers_from(line, fields, 2))
        else:
            raise InvalidText(line, 0)
    book = (tuple(wishes), tuple(rolls), tuple(seats))
    lets_book(book)
    return book


def dealing_line(book, dealing):
    """The pairs of the dealing, or "-" for none."""
    need(is_dealing(book, dealing), "dealing")
    return " ".join([f"{pupil}-{school}" for pupil, school in dealing]) or "-"


def read_dealing(book, text):
    """The dealing with this line."""
    need(isinstance(text, str), "text")
    return dealing_told(book, text, 0)


def dealing_told(book, text, ahead):
    """The dealing that the text tells; so many fields stand ahead of it in its line."""
    pairs = pairs_told(text, ahead)
    for row in range(len(pairs)):
        if not is_dealing(book, pairs[:row + 1]):
            raise InvalidRow(row + ahead)
    return pairs


def _line(head, listed):
    return " ".join([head] + [str(number) for number in listed])


def _need_field(line, fields, told):
    """Refuses a line whose field 1 is not this one."""
    if len(fields) < 2 or fields[1] != told:
        raise InvalidText(line, 1)


def _seats_in(line, fields, school):
    """The seats that the line of this school tells."""
    _need_field(line, fields, str(school))
    told = fields[2] if len(fields) > 2 else ""
    if not told.startswith("x") or not told.endswith(":") or not is_numeral(told[1:-1]):
        raise InvalidText(line, 2)
    return int(told[1:-1])


def _numbers_from(line, fields, first):
    """The numbers that the fields from the first one on tell."""
    for field in range(first, len(fields)):
        if not is_numeral(fields[field]):
            raise InvalidText(line, field)
    return tuple([int(field) for field in fields[first:]])
