"""Point 88: logs played again."""

from random import Random

from idleclaims.errors import InvalidEvent
from idleclaims.office import LiveOffice
from idleclaims.replaying import replayed, stood_at
from tests import samples, test_office, truth
from tests.offices import ByDealings, OfficeByWords
from tests.support import Case

LOG = (("waive", 3, 0), ("strike", 1, 0), ("pupil",))


class ReplayingTest(Case):
    def test_by_hand(self):
        live = replayed(samples.FOUR, LOG)
        self.assertIs(type(live), LiveOffice)
        self.same([live.log(), live.tally(), live.waived_now()], [LOG, (3, 0, 0, 0), ((3, 0),)])
        best = ((0, 2), (1, 1), (2, 0), (3, 3))
        self.same(stood_at(samples.FOUR, LOG, 0), (samples.FOUR, (), samples.STILL))
        self.same(stood_at(samples.FOUR, LOG, 1), (samples.FOUR, ((3, 0),), samples.BEST))
        self.same(stood_at(samples.FOUR, LOG, 2), (truth.struck(samples.FOUR, ((1, 0),)), ((3, 0),), best))
        self.same(stood_at(book=samples.FOUR, log=LOG, many=3)[0], live.book_now())

    def test_small_logs(self):
        random = Random(43)
        chance = test_office.ChanceTest()
        for book in samples.small_books()[::5]:
            words = OfficeByWords(book, ByDealings())
            for _ in range(8):
                event = chance.small_event(words, random)
                if words.reason(event) is None:
                    words.go(event)
            log = words.log()
            live = replayed(book, log)
            self.same([live.book_now(), live.waived_now(), live.log()], [words.book, words.waived, log])
            self.same(live.tally(), (len(log), 0, 0, 0))
            for many in range(len(log) + 1):
                _, then, waived = words.stood[many]
                self.same(stood_at(book, log, many), (then, waived, words.ways.allowed_best(then, waived)))

    def test_no_events(self):
        for book in samples.DOCUMENT + samples.EDGES:
            live = replayed(book, ())
            self.same([live.book_now(), live.log(), live.tally()], [book, (), (0, 0, 0, 0)])
            self.same(stood_at(book, (), 0), (book, (), truth.top(book)))

    def test_refused_events(self):
        wrong = ("waive", 3, 0)
        log = (("waive", 3, 0), ("pupil",), wrong, ("wish", 9, 9, 9))
        for call, more in ((replayed, ()), (stood_at, (3,)), (stood_at, (4,))):
            with self.assertRaises(InvalidEvent) as caught:
                call(samples.FOUR, log, *more)
            self.assertIs(caught.exception.event, log[2])
            self.same(caught.exception.reason, "waived")
        # Behind the first many events nothing is looked at.
        for many in (0, 1, 2):
            self.same(stood_at(samples.FOUR, log, many)[1], ((3, 0),) if many else ())

    def test_more_than_forty_events(self):
        log = (("waive", 3, 0), ("claim", 3, 0)) * 20
        self.same(replayed(samples.FOUR, log).tally(), (40, 0, 0, 0))
        self.same(stood_at(samples.FOUR, log, 39)[1], ((3, 0),))
        more = log + (("pupil",),)
        for call, many in ((replayed, ()), (stood_at, (41,))):
            self.refuses(InvalidEvent, {"event": ("pupil",), "reason": "many"}, call, samples.FOUR, more, *many)
        self.same(stood_at(samples.FOUR, more, 40), (samples.FOUR, (), samples.STILL))

    def test_offices_do_not_touch_each_other(self):
        one, two = replayed(samples.FOUR, LOG), replayed(samples.FOUR, LOG)
        one.undo(3)
        self.same([two.log(), one.log()], [LOG, ()])
        self.same(one.tally(), (3, 3, 0, 0))

    def test_parameters(self):
        logs = (None, 0, True, "", "pupil", [], [("pupil",)], ("pupil",), (None,), (("pupil",), ("school", 0)), ((),))
        for log in logs:
            self.not_usable("log", replayed, samples.FOUR, log)
            self.not_usable("log", stood_at, samples.FOUR, log, None)
        for many in (None, "", "1", True, False, (1,), [1], -1, 4, 10 ** 59):
            self.not_usable("many", stood_at, samples.FOUR, LOG, many)
            # Parameters are looked at ahead of the events.
            self.not_usable("many", stood_at, samples.FOUR, (("waive", 9, 9),) * 3, many)
        self.not_usable("log", replayed, samples.FOUR, (("waive", 9, 9), ("waive", 9)))
