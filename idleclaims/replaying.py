"""Logs played again in a new office."""

from idleclaims.checking import need
from idleclaims.kinds import is_below
from idleclaims.office import LiveOffice
from idleclaims.officeevents import is_log


def replayed(book, log):
    """A new office with the book, behind the events of the log."""
    need(is_log(log), "log")
    return _office_behind(book, log)


def stood_at(book, log, many):
    """The book, the waived pairs and the best dealing under the waiver behind the first events, so many."""
    need(is_log(log), "log")
    need(is_below(many, len(log) + 1), "many")
    live = _office_behind(book, log[:many])
    return (live.book_now(), live.waived_now(), live.allowed_best())


def _office_behind(book, log):
    live = LiveOffice(book)
    for event in log:
        live.go(event)
    return live
