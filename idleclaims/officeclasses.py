"""A day of an office: its book in the morning and the log of its events, as an object."""

from idleclaims.checking import need
from idleclaims.eventlines import log_lines
from idleclaims.kinds import is_pupil
from idleclaims.office import LiveOffice, is_quiet
from idleclaims.officeevents import is_log
from idleclaims.replaying import stood_at


class Day:
    """A log in an office with a book; it never changes."""

    def __init__(self, book, log):
        need(is_log(log), "log")
        self.book = book
        self.events = log
        live = LiveOffice(book)
        # The book and the best dealing under the waiver behind 0, 1, .. all events.
        self.books = [book]
        self.deals = [live.allowed_best()]
        for event in log:
            live.go(event)
            self.books.append(live.book_now())
            self.deals.append(live.allowed_best())

    def told(self):
        """The book and the log."""
        return (self.book, self.events)

    def how_many(self):
        """How many events there are."""
        return len(self.events)

    def stood(self, many):
        """The book, the waived pairs and the best dealing under the waiver behind the first events, so many."""
        return stood_at(self.book, self.events, many)

    def places(self, pupil):
        """The pupil's places in the best dealings under the waivers behind 0, 1, .. all events."""
        need(is_pupil(self.books[len(self.events)], pupil), "pupil")
        return tuple([dict(dealing).get(pupil) for dealing in self.deals])

    def loud(self):
        """The set of the numbers of the events that are not quiet."""
        both = list(zip(self.books, self.books[1:]))
        return tuple([k for k, (before, behind) in enumerate(both) if not is_quiet(before, behind)])

    def as_lines(self):
        """A line for each event."""
        return log_lines(self.events)

    def is_same(self, other):
        """Is other a Day with the same book and the same log?"""
        return isinstance(other, Day) and other.told() == self.told()
