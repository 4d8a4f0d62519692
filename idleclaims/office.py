"""An office that is live: its book and its waived pairs change event by event."""

from idleclaims.adding import with_pair, with_pupil, with_school, with_seats
from idleclaims.best import best_deal
from idleclaims.bestunder import best_without
from idleclaims.bookparts import listed_pairs, struck_book
from idleclaims.checking import need
from idleclaims.comparedbooks import same_rightful
from idleclaims.errors import InvalidEvent, NothingToUndo
from idleclaims.kinds import is_number, is_pupil, is_school
from idleclaims.lastbook import idle_pairs, rightful_pairs
from idleclaims.lowering import moved_roll, moved_wish
from idleclaims.officeevents import is_event

MOST_EVENTS = 40
MOST_PUPILS = 12
MOST_SCHOOLS = 12
MOST_PAIRS = 60


class LiveOffice:
    """An office with a book and a set of waived pairs, at first none."""

    def __init__(self, book):
        self.book = book
        self.waived = ()
        # For each event not undone: the event, and the book and the waived pairs ahead of it.
        self.past = []
        self.carried = 0
        self.withdrawn = 0
        self.refusals = 0
        self.trials = 0

    def go(self, event):
        """Carries the event out; returns the set of the pairs that are no longer waived."""
        self._check(event)
        before = self.waived
        self.past.append((event, self.book, before))
        self.book, self.waived = _behind(self.book, before, event)
        self.carried += 1
        return tuple([pair for pair in before if pair not in self.waived])

    def tried(self, event):
        """What allowed_best() would be behind the event; only the tally changes."""
        self._check(event)
        book, waived = _behind(self.book, self.waived, event)
        self.trials += 1
        return best_without(book, waived)

    def barred(self, event):
        """The reason why the event would be refused, or None."""
        return _why_not(self.book, self.waived, len(self.past), event)

    def undo(self, many):
        """Takes back the last events, so many; returns them as a log."""
        need(is_number(many), "many")
        left = len(self.past) - many
        if left < 0:
            raise NothingToUndo(len(self.past))
        undone = self.log()[left:]
        if undone:
            _, self.book, self.waived = self.past[left]
            del self.past[left:]
        self.withdrawn += many
        return undone

    def do_all(self, events, keep):
        """Carries these events out; returns how many. If one is refused, those ahead stay if keep is True."""
        need(isinstance(events, tuple), "events")
        need(isinstance(keep, bool), "keep")
        done = 0
        try:
            for event in events:
                self.go(event)
                done += 1
        except InvalidEvent:
            if not keep:
                self.undo(done)
            raise
        return done

    def book_now(self):
        return self.book

    def waived_now(self):
        """The set of the waived pairs."""
        return self.waived

    def best_now(self):
        """The best dealing."""
        return best_deal(self.book)

    def allowed_best(self):
        """The best dealing under the waiver."""
        return best_without(self.book, self.waived)

    def quiet_now(self):
        """Did the last event leave the set of the rightful dealings as it was?"""
        if not self.past:
            return True
        _, before, _ = self.past[len(self.past) - 1]
        return is_quiet(before, self.book)

    def log(self):
        """The events not undone."""
        return tuple([event for event, _, _ in self.past])

    def tally(self):
        """How many events were carried out, taken back, refused; how many trials returned."""
        return (self.carried, self.withdrawn, self.refusals, self.trials)

    def _check(self, event):
        """Refuses and counts an event that is barred."""
        reason = self.barred(event)
        if reason is not None:
            self.refusals += 1
            raise InvalidEvent(event, reason)


def is_quiet(before, behind):
    """Do the books ahead of and behind an event have the same rightful dealings?"""
    return before == behind or same_rightful(before, behind)


def _behind(book, waived, event):
    """The book and the waived pairs behind an event that is not barred."""
    if event[0] == "waive":
        return (book, tuple(sorted(waived + (_pair_of(event),))))
    if event[0] == "claim":
        return (book, tuple([pair for pair in waived if pair != _pair_of(event)]))
    changed = _book_behind(book, event)
    idle = idle_pairs(changed) if waived else ()
    return (changed, tuple([pair for pair in waived if pair in idle]))


def _book_behind(book, event):
    """The book behind an event that changes it."""
    match event:
        case ("pupil",):
            return with_pupil(book)
        case ("school", many):
            return with_school(book, many)
        case ("pair", pupil, school, place, other):
            return with_pair(book, pupil, school, place, other)
        case ("wish", pupil, school, place):
            return moved_wish(book, pupil, school, place)
        case ("roll", school, pupil, place):
            return moved_roll(book, school, pupil, place)
        case ("seats", school, many):
            return with_seats(book, school, many)
        case _:
            return struck_book(book, (_pair_of(event),))


def _pair_of(event):
    """The pupil and the school of an event that names both."""
    return (event[2], event[1]) if event[0] == "roll" else (event[1], event[2])


def _why_not(book, waived, many, event):
    """The first reason that applies against an event, behind so many others, or None."""
    if not is_event(event):
        return "form"
    if many >= MOST_EVENTS:
        return "many"
    if _has_no_room(book, event[0]):
        return "size"
    if _is_absent(book, event):
        return "absent"
    if _is_misplaced(book, event):
        return "place"
    if event[0] == "waive" and _pair_of(event) in rightful_pairs(book):
        return "rightful"
    if event[0] in ("waive", "claim") and (_pair_of(event) in waived) == (event[0] == "waive"):
        return "waived"
    return None


def _has_no_room(book, word):
    """Has the book no room for what this word would add?"""
    if word == "pupil":
        return len(book[0]) >= MOST_PUPILS
    if word == "school":
        return len(book[1]) >= MOST_SCHOOLS
    return word == "pair" and len(listed_pairs(book)) >= MOST_PAIRS


def _is_absent(book, event):
    """Is no such pupil, school or pair in the book, or, for "pair", such a pair in it?"""
    word = event[0]
    if word in ("pupil", "school"):
        return False
    if word == "seats":
        return not is_school(book, event[1])
    pupil, school = _pair_of(event)
    if not is_pupil(book, pupil) or not is_school(book, school):
        return True
    return (school in book[0][pupil]) == (word == "pair")


def _is_misplaced(book, event):
    """Does the event name a place that the list has not, or has not room for?"""
    match event:
        case ("wish", pupil, _, place):
            return place >= len(book[0][pupil])
        case ("roll", school, _, place):
            return place >= len(book[1][school])
        case ("pair", pupil, school, place, other):
            return place > len(book[0][pupil]) or other > len(book[1][school])
        case _:
            return False
