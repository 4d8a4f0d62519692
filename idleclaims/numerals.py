"""Fields of lines, and the numerals and pairs that they tell."""

from idleclaims.errors import InvalidText

MOST_FIGURES = 60


def fields_of(text):
    """What comes of cutting the text at each single space."""
    return text.split(" ")


def is_numeral(field):
    if not field.isdigit() or not field.isascii() or len(field) > MOST_FIGURES:
        return False
    return field == "0" or not field.startswith("0")


def pair_told(field):
    """The pair of numbers that a numeral, a minus and a numeral tell; None for another field."""
    numerals = field.split("-")
    if len(numerals) != 2 or not all(is_numeral(numeral) for numeral in numerals):
        return None
    return (int(numerals[0]), int(numerals[1]))


def pairs_told(text, ahead):
    """The pairs that the text tells, "-" for none; so many fields stand ahead of it in its line."""
    if text == "-":
        return ()
    pairs = tuple([pair_told(field) for field in fields_of(text)])
    if None in pairs:
        raise InvalidText(0, pairs.index(None) + ahead)
    return pairs
