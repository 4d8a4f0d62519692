"""Events and logs as lines."""

from idleclaims.checking import need
from idleclaims.errors import InvalidText
from idleclaims.numerals import fields_of, is_numeral
from idleclaims.officeevents import is_event, is_log, least_numbers


def event_line(event):
    """The values of the event, a space between each two."""
    need(is_event(event), "event")
    return _line(event)


def read_event(text):
    """The event with this line."""
    need(isinstance(text, str), "text")
    return _event_in(0, text)


def log_lines(log):
    """A line for each event."""
    need(is_log(log), "log")
    return tuple([_line(event) for event in log])


def read_log(lines):
    """The log with these lines."""
    need(isinstance(lines, tuple) and all(isinstance(line, str) for line in lines), "lines")
    return tuple([_event_in(line, text) for line, text in enumerate(lines)])


def _line(event):
    return " ".join([str(value) for value in event])


def _event_in(line, text):
    """The event that the text of this line tells."""
    word, *numerals = fields_of(text)
    least = least_numbers(word)
    if least is None:
        raise InvalidText(line, 0)
    for k, low in enumerate(least):
        if k >= len(numerals) or not is_numeral(numerals[k]) or int(numerals[k]) < low:
            raise InvalidText(line, k + 1)
    if len(numerals) > len(least):
        raise InvalidText(line, len(least) + 1)
    numbers = [int(numeral) for numeral in numerals]
    return (word, *numbers)
