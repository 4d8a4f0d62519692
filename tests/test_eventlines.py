"""Point 89: events and logs as lines."""

from random import Random

from idleclaims.errors import InvalidText
from idleclaims.eventlines import event_line, log_lines, read_event, read_log
from tests.support import Case
from tests.test_booklines import NO_NUMERALS
from tests.test_officeevents import EVENTS, FORMS

LOG = (("pupil",), ("pair", 0, 1, 0, 2), ("seats", 3, 10 ** 59), ("waive", 12, 0))
NO_EVENTS = (
    None, 0, True, "", "pupil", (), [], ["pupil"], ("pupil", 0), ("school",), ("school", 0), ("school", True),
    ("seats", 0, 0), ("wish", 0, 0), ("Pupil",), ("waive", 0, -1), ("waive", "0", "1"), (("pupil",),),
    ("claim", 0, None),
)


class EventLinesTest(Case):
    def test_lines(self):
        self.same(event_line(("pair", 0, 1, 0, 2)), "pair 0 1 0 2")
        self.same(event_line(("pupil",)), "pupil")
        self.same(log_lines(LOG), ("pupil", "pair 0 1 0 2", "seats 3 1" + "0" * 59, "waive 12 0"))
        self.same(read_log(("pupil", "pair 0 1 0 2", "seats 3 1" + "0" * 59, "waive 12 0")), LOG)
        self.same(log_lines(()), ())
        self.same(read_log(()), ())

    def test_read_back(self):
        for event in EVENTS:
            line = event_line(event=event)
            self.same(line, " ".join(map(str, event)))
            self.same(read_event(text=line), event)
        self.same(read_log(lines=log_lines(log=EVENTS)), EVENTS)
        self.same(read_event("school " + "9" * 60), ("school", 10 ** 60 - 1))

    def test_no_events(self):
        for event in NO_EVENTS:
            self.not_usable("event", event_line, event)
            self.not_usable("log", log_lines, (("pupil",), event))
        for log in (None, 0, "", "pupil", [], [("pupil",)], ("pupil",), ("pupil", 1)):
            self.not_usable("log", log_lines, log)

    def test_no_strings(self):
        for text in (None, 0, True, (), ("pupil",), ["pupil"], b"pupil"):
            self.not_usable("text", read_event, text)
            self.not_usable("lines", read_log, ("pupil", text))
        for lines in (None, 0, "pupil", ["pupil"], []):
            self.not_usable("lines", read_log, lines)
        self.not_usable("lines", read_log, ("wrong", 5))

    def wrong(self, text, field):
        self.refuses(InvalidText, {"line": 0, "field": field}, read_event, text)
        self.refuses(InvalidText, {"line": 0, "field": field}, read_log, (text,))
        self.refuses(InvalidText, {"line": 2, "field": field}, read_log, ("pupil", "strike 5 5", text, "wrong"))

    def test_words(self):
        for word in ("", "Pupil", "pupils", "open", "0", "pair:", "-"):
            self.wrong(word, 0)
            self.wrong(word + " 0 1", 0)
        self.wrong(" pupil", 0)
        self.wrong("  ", 0)

    def test_each_field(self):
        for word, (many, from_one) in FORMS.items():
            fields = [word] + ["1"] * many
            self.same(read_event(" ".join(fields)), (word,) + (1,) * many)
            for at in range(1, many + 1):
                for numeral in NO_NUMERALS + ("True", "None", "1 "):
                    wrong = fields[:at] + [numeral] + fields[at + 1:]
                    self.wrong(" ".join(wrong), at if numeral != "1 " else at + 1)
                    # What is wrong or too many behind it is not looked at.
                    if numeral != "1 ":
                        self.wrong(" ".join(wrong[:at + 1] + ["x", "x", "x", "x"]), at)
                zero = " ".join(fields[:at] + ["0"] + fields[at + 1:])
                if from_one == at - 1:
                    self.wrong(zero, at)
                else:
                    self.same(read_event(zero)[at], 0)

    def test_lacking_and_too_many(self):
        for word, (many, _) in FORMS.items():
            for lacking in range(many):
                self.wrong(" ".join([word] + ["1"] * lacking), lacking + 1)
            for more in ("0", "1", "", "x"):
                self.wrong(" ".join([word] + ["1"] * many + [more]), many + 1)
                self.wrong(" ".join([word] + ["1"] * many + [more, more]), many + 1)
        self.wrong("pupil ", 1)
        self.wrong("strike  1 1", 1)
        self.wrong("strike 1  1", 2)
        self.wrong("strike 1 ", 2)
        self.wrong("strike 1 1 ", 3)

    def test_the_first_line_comes_first(self):
        self.refuses(InvalidText, {"line": 1, "field": 2}, read_log, ("pupil", "seats 0 0", "x"))
        self.refuses(InvalidText, {"line": 0, "field": 1}, read_log, ("school", "x"))

    def test_lines_by_chance(self):
        random = Random(37)
        for _ in range(300):
            word = random.choice(list(FORMS))
            least = (1 if FORMS[word][1] == at else 0 for at in range(FORMS[word][0]))
            event = (word, *[random.choice((low, low + 1, random.randrange(low, 10 ** 60))) for low in least])
            self.same(read_event(event_line(event)), event)
