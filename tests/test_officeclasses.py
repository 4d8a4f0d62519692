"""Point 92: a day of an office."""

from random import Random

from idleclaims.errors import InvalidEvent
from idleclaims.officeclasses import Day
from tests import samples, test_office, truth
from tests.offices import ByAsking, ByDealings, OfficeByWords
from tests.support import Case, no_numbers, unusable
from tests.test_parameters_third import NO_LOGS

FOUR = samples.FOUR
LOG = (("waive", 3, 0), ("strike", 1, 0))


class DayTest(Case):
    def tells(self, day, words):
        """Everything that the object tells when this stood behind its events."""
        log, ways = words.log(), words.ways
        first, last = words.stood[0][1], words.stood[-1][1]
        self.same([day.told(), day.how_many()], [(first, log), len(log)])
        self.same(day.as_lines(), tuple(" ".join(map(str, event)) for event in log))
        best = [ways.allowed_best(book, waived) for _, book, waived in words.stood]
        for many, (_, book, waived) in enumerate(words.stood):
            self.same(day.stood(many), (book, waived, best[many]))
        for pupil in range(len(last[0])):
            self.same(day.places(pupil), tuple(truth.place(dealing, pupil) for dealing in best))
        both = list(zip(words.stood, words.stood[1:]))
        loud = [k for k, (before, behind) in enumerate(both) if not ways.is_quiet(before[1], behind[1])]
        self.same(day.loud(), tuple(loud))
        self.not_usable("pupil", day.places, len(last[0]))
        self.not_usable("many", day.stood, len(log) + 1)
        return loud

    def test_example(self):
        day = Day(FOUR, LOG)
        self.same([day.places(0), day.loud()], [(0, 1, 2), (1,)])
        self.same([day.told(), day.how_many(), day.as_lines()], [(FOUR, LOG), 2, ("waive 3 0", "strike 1 0")])

    def test_days_by_chance(self):
        random = Random(95)
        chance = test_office.ChanceTest()
        loud = quiet = 0
        for book in samples.small_books()[::4]:
            words = OfficeByWords(book, ByDealings())
            for _ in range(random.randint(0, 8)):
                event = chance.small_event(words, random)
                if words.reason(event) is None:
                    words.go(event)
            many = len(self.tells(Day(book, words.log()), words))
            loud, quiet = loud + many, quiet + len(words.log()) - many
        self.assertGreater(min(loud, quiet), 30)

    def test_a_day_without_events(self):
        for book in samples.DOCUMENT + samples.EDGES:
            day = Day(book, ())
            self.same([day.told(), day.how_many(), day.loud(), day.as_lines()], [(book, ()), 0, (), ()])
            self.same(day.stood(0), (book, (), truth.top(book)))
            for pupil in range(len(book[0])):
                self.same(day.places(pupil), (truth.place(truth.top(book), pupil),))

    def test_a_pupil_that_comes_in_later(self):
        log = (("waive", 3, 0), ("pupil",), ("pair", 4, 3, 0, 0), ("school", 1), ("pair", 3, 4, 2, 0), ("pupil",))
        day = Day(FOUR, log)
        self.same(day.places(4), (None, None, None, 3, 3, 3, 3))
        self.same(day.places(5), (None,) * 7)
        self.same(day.places(pupil=3)[:3], (3, 3, 3))
        self.not_usable("pupil", day.places, 6)
        words = OfficeByWords(FOUR, ByAsking())
        for event in log:
            words.go(event)
        self.tells(day, words)

    def test_refused_logs(self):
        wrong = ("waive", 3, 0)
        log = (("waive", 3, 0), ("pupil",), wrong, ("wish", 9, 9, 9))
        with self.assertRaises(InvalidEvent) as caught:
            Day(FOUR, log)
        self.assertIs(caught.exception.event, log[2])
        self.same(caught.exception.reason, "waived")
        for log in NO_LOGS:
            self.not_usable("log", Day, FOUR, log)
        # What is no log is refused ahead of its events.
        self.not_usable("log", Day, FOUR, (("waive", 9, 9), None))

    def test_forty_events(self):
        log = (("waive", 3, 0), ("claim", 3, 0)) * 20
        day = Day(FOUR, log)
        self.same([day.how_many(), day.loud(), day.places(0)], [40, (), (0, 1) * 20 + (0,)])
        self.same(day.stood(39), (FOUR, ((3, 0),), samples.BEST))
        self.refuses(InvalidEvent, {"event": ("pupil",), "reason": "many"}, Day, FOUR, log + (("pupil",),))

    def test_large_books(self):
        for book in samples.large_books():
            words = OfficeByWords(book, ByAsking())
            idle = words.ways.idle(book)
            events = [("waive", *pair) for pair in idle[:1]] + [("strike", *pair) for pair in idle[-1:]]
            for event in events + [("strike", *truth.pairs(book)[7]), ("wish", 0, book[0][0][0], 1)]:
                if words.reason(event) is None:
                    words.go(event)
            self.tells(Day(book, words.log()), words)

    def test_is_same(self):
        day = Day(FOUR, LOG)
        for other in (None, 0, True, "", (), (FOUR, LOG), [FOUR, LOG], LOG, samples):
            self.same(day.is_same(other), False)
        self.same([day.is_same(day), day.is_same(other=Day(FOUR, tuple(list(LOG))))], [True, True])
        self.same([day.is_same(Day(FOUR, LOG[:1])), day.is_same(Day(samples.LINK, ()))], [False, False])
        # The same book stood behind them, but another log; the same log, but another book.
        self.same(Day(FOUR, ()).is_same(Day(FOUR, (("waive", 3, 0), ("claim", 3, 0)))), False)
        self.same(Day(FOUR, ()).is_same(Day(samples.SIDES, ())), False)

    def test_two_objects(self):
        one, two = Day(FOUR, LOG), Day(FOUR, LOG[:1])
        told = [two.told(), two.places(0), two.loud()]
        self.same([one.stood(2)[1], one.places(0)], [((3, 0),), (0, 1, 2)])
        self.same([two.told(), two.places(0), two.loud()], told)
        self.same(one.places(0), (0, 1, 2))

    def test_parameters(self):
        def make():
            return Day(FOUR, LOG)

        self.hold_class("officeclasses", Day, {"book": FOUR, "log": LOG}, unusable("log", NO_LOGS))
        for name in ("told", "how_many", "loud", "as_lines"):
            self.hold_method(make, name, {})
        self.hold_method(make, "stood", {"many": 2}, unusable("many", no_numbers(3)))
        self.hold_method(make, "places", {"pupil": 3}, unusable("pupil", no_numbers(4)))
        self.hold_method(make, "is_same", {"other": None})
