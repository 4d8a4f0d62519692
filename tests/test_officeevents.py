"""Point 86: the form of events and logs."""

from copy import deepcopy

from idleclaims.officeevents import is_event, is_log
from tests.support import Case

LARGE = 10 ** 59
EVENTS = (
    ("pupil",),
    ("school", 1),
    ("school", LARGE),
    ("pair", 0, 0, 0, 0),
    ("pair", 1, 2, 3, LARGE),
    ("wish", 0, 0, 0),
    ("wish", 7, LARGE, 2),
    ("roll", 0, 0, 0),
    ("roll", 3, 2, 1),
    ("seats", 0, 1),
    ("seats", LARGE, 2),
    ("strike", 0, 0),
    ("strike", 99, 99),
    ("waive", 0, 0),
    ("claim", 0, LARGE),
)
# How many numbers stand behind each word, and at which place one from 1 on.
FORMS = {
    "pupil": (0, None), "school": (1, 0), "pair": (4, None), "wish": (3, None), "roll": (3, None),
    "seats": (2, 1), "strike": (2, None), "waive": (2, None), "claim": (2, None),
}
NO_NUMBERS = (None, True, False, "", "1", (), (1,), [1], -1, -LARGE)


class OfficeEventsTest(Case):
    def judged(self, call, thing, expected):
        before = deepcopy(thing)
        self.same(call(thing), expected, thing)
        self.same(call(thing=thing), expected)
        self.same(thing, before)

    def test_events(self):
        for event in EVENTS:
            self.judged(is_event, event, True)
            self.judged(is_event, list(event), False)
            self.judged(is_event, event + (1,), False)
            self.judged(is_event, event[:-1], False)
            self.judged(is_event, event[1:], False)
            self.judged(is_event, (event,), False)

    def test_numbers(self):
        for word, (many, from_one) in FORMS.items():
            for at in range(many):
                for thing in NO_NUMBERS + (0, 1, 2):
                    numbers = [1] * many
                    numbers[at] = thing
                    fine = type(thing) is int and thing >= (1 if at == from_one else 0)
                    self.judged(is_event, (word, *numbers), fine)

    def test_lengths(self):
        for word, (many, _) in FORMS.items():
            for length in range(7):
                self.judged(is_event, (word,) + (1,) * length, length == many)

    def test_words(self):
        for word in ("", "Pupil", "pupils", "tell", " pair", "undo", None, 0, True, ("pupil",), ["pupil"], ()):
            for length in range(5):
                self.judged(is_event, (word,) + (1,) * length, False)

    def test_no_events(self):
        for thing in (None, 0, True, "", "pupil", (), [], ["pupil"], [("pupil",)], ("pupil", None)):
            self.judged(is_event, thing, False)

    def test_logs(self):
        self.judged(is_log, (), True)
        self.judged(is_log, EVENTS, True)
        self.judged(is_log, EVENTS * 4, True)
        for thing in (None, 0, True, "", "pupil", [], list(EVENTS), ("pupil",), (("pupil",), None)):
            self.judged(is_log, thing, False)
        for thing in ((["pupil"],), ((),), (None,), ((("pupil",),),)):
            self.judged(is_log, thing, False)
        for at in range(len(EVENTS)):
            self.judged(is_log, EVENTS[:at] + (("school", 0),) + EVENTS[at:], False)
