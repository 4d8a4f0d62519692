"""Points 86 and 87: the office, held call by call against one that the tests count out."""

from random import Random

from idleclaims.errors import InvalidEvent, NothingToUndo
from idleclaims.office import LiveOffice
from tests import samples, truth
from tests.offices import ByAsking, ByDealings, OfficeByWords, any_event, is_event
from tests.support import Case, unusable

NO_EVENTS = (None, 0, True, "", "pupil", (), [], ["pupil"], ("pupil", 1), ("school", 0), ("waive", 0), ("pear", 0, 0))


def is_small(book):
    """Has the book so few dealings that the tests may go through them?"""
    many = 1
    for wish in book[0]:
        many *= len(wish) + 1
    return many <= 800 and len(truth.dealings(book)) <= 300


class OfficeCase(Case):
    def offices(self, book, ways):
        return LiveOffice(book), OfficeByWords(book, ways)

    def agree(self, live, words):
        """Does everything stand as it should?"""
        book, waived = words.book, words.waived
        self.same(live.book_now(), book)
        self.same(live.waived_now(), waived)
        self.same(live.log(), words.log())
        self.same(live.tally(), tuple(words.counts))
        self.same(live.best_now(), words.ways.best(book))
        self.same(live.allowed_best(), words.ways.allowed_best(book, waived))
        quiet = len(words.stood) == 1 or words.ways.is_quiet(words.stood[-2][1], book)
        self.same(live.quiet_now(), quiet, words.stood[-2:])

    def refused(self, call, words, event, *more):
        """The call must refuse the event, keep the very object, and change nothing but the tally."""
        reason = words.reason(event)
        words.counts[2] += 1
        with self.assertRaises(InvalidEvent) as caught:
            call(event, *more)
        self.assertIs(caught.exception.event, event)
        self.same(caught.exception.reason, reason)

    def gone(self, live, words, event):
        """The event is carried out, or refused."""
        reason = words.reason(event)
        self.same(live.barred(event), reason, event)
        if reason is None:
            self.same(live.go(event), words.go(event), event)
        else:
            self.refused(live.go, words, event)
        return reason

    def tried(self, live, words, event):
        if words.reason(event) is not None:
            self.refused(live.tried, words, event)
            return
        expected = words.ways.allowed_best(*words.behind(event))
        words.counts[3] += 1
        self.same(live.tried(event), expected)

    def undone(self, live, words, many):
        left = len(words.log())
        if many > left:
            self.refuses(NothingToUndo, {"steps": left}, live.undo, many)
        else:
            self.same(live.undo(many), words.undo(many))

    def all_done(self, live, words, events, keep):
        """do_all, the tests going event by event."""
        done = 0
        for event in events:
            if words.reason(event) is not None:
                break
            words.go(event)
            done += 1
        if done == len(events):
            self.same(live.do_all(events, keep), done)
            return
        reason = words.reason(events[done])
        if not keep:
            words.undo(done)
        words.counts[2] += 1
        with self.assertRaises(InvalidEvent) as caught:
            live.do_all(events, keep)
        self.assertIs(caught.exception.event, events[done])
        self.same(caught.exception.reason, reason)


class ExampleTest(OfficeCase):
    def test_example(self):
        live = LiveOffice(samples.FOUR)
        result = [live.go(("waive", 3, 0)), live.tried(("strike", 1, 0))]
        self.same(result, [(), ((0, 2), (1, 1), (2, 0), (3, 3))])
        result = [live.go(("strike", 3, 0)), live.quiet_now(), live.undo(1), live.waived_now()]
        self.same(result, [((3, 0),), True, (("strike", 3, 0),), ((3, 0),)])
        self.same(live.tally(), (2, 1, 0, 1))

    def test_at_first(self):
        for book in samples.DOCUMENT + samples.EDGES:
            live, words = self.offices(book, ByDealings())
            self.agree(live, words)
            self.same(live.undo(0), ())
            self.same(live.do_all((), True), 0)
            self.same(live.do_all((), False), 0)
            self.same(live.tally(), (0, 0, 0, 0))

    def test_each_event(self):
        live, words = self.offices(samples.FOUR, ByDealings())
        events = (
            ("pupil",), ("school", 2), ("pair", 4, 4, 0, 0), ("waive", 3, 0), ("claim", 3, 0), ("wish", 0, 2, 2),
            ("roll", 0, 2, 3), ("seats", 3, 2), ("strike", 0, 2)
        )
        for event in events:
            self.same(self.gone(live, words, event), None)
            self.agree(live, words)
        wishes = ((1, 0), (0, 1), (0, 2), (0, 3), (4,))
        rolls = ((0, 3, 1, 2), (1, 0), (2,), (3,), (4,))
        self.same(live.book_now(), (wishes, rolls, (1, 1, 1, 2, 2)))
        self.same(live.log(), events)
        self.same(live.tally(), (9, 0, 0, 0))
        for k in range(9):
            self.same(live.undo(1), (events[8 - k],))
            words.undo(1)
            self.agree(live, words)

    def test_what_go_returns(self):
        live = LiveOffice(samples.FOUR)
        self.same(live.go(("waive", 2, 0)), ())
        self.same(live.go(("waive", 3, 0)), ())
        self.same(live.waived_now(), ((2, 0), (3, 0)))
        self.same(live.go(("claim", 2, 0)), ((2, 0),))
        self.same(live.go(("waive", 0, 2)), ())
        # With four seats at school 0 the pair (3, 0) is no idle one.
        self.same(live.waived_now(), ((0, 2), (3, 0)))
        gone = live.go(("seats", 0, 4))
        idle = truth.idle_pairs(live.book_now())
        self.same(gone, tuple(pair for pair in ((0, 2), (3, 0)) if pair not in idle))
        self.assertIn((3, 0), gone)
        self.same(live.undo(1), (("seats", 0, 4),))
        self.same(live.waived_now(), ((0, 2), (3, 0)))
        self.same(live.go(("strike", 0, 2)), ((0, 2),))

    def test_a_pair_that_becomes_rightful_is_no_longer_waived(self):
        book = (((0,), (0,)), ((0, 1),), (1,))
        live = LiveOffice(book)
        live.go(("waive", 1, 0))
        self.same(live.go(("roll", 0, 1, 0)), ((1, 0),))
        self.same([live.waived_now(), live.quiet_now(), live.best_now()], [(), False, ((1, 0),)])
        self.same(live.go(("waive", 0, 0)), ())
        self.same(live.undo(2), (("roll", 0, 1, 0), ("waive", 0, 0)))
        self.same([live.waived_now(), live.book_now(), live.quiet_now()], [((1, 0),), book, True])

    def test_methods_stand_in_the_class(self):
        def make():
            return LiveOffice(samples.FOUR)

        for name in ("go", "tried", "barred"):
            self.hold_method(make, name, {"event": ("waive", 3, 0)})
        for name in ("book_now", "waived_now", "best_now", "allowed_best", "quiet_now", "log", "tally"):
            self.hold_method(make, name, {})
        self.hold_class("office", LiveOffice, {"book": samples.FOUR})


class ChanceTest(OfficeCase):
    def test_small_offices(self):
        random = Random(39)
        reasons = {}
        for book in samples.small_books()[::3]:
            live, words = self.offices(book, ByDealings())
            for _ in range(14):
                self.any_call(live, words, random, reasons)
                self.agree(live, words)
            self.same(LiveOffice(book).log(), ())
        for reason in (None, "absent", "place", "rightful", "waived", "form"):
            self.assertGreater(reasons[reason], 10, reason)

    def small_event(self, words, random):
        """An event behind which the book is small, sometimes no event at all."""
        if random.random() < 0.05:
            return random.choice(NO_EVENTS)
        while True:
            event = any_event(words.book, words.waived, random)
            if words.reason(event) is not None or is_small(words.behind(event)[0]):
                return event

    def any_call(self, live, words, random, reasons):
        way = random.random()
        if way < 0.6:
            reason = self.gone(live, words, self.small_event(words, random))
            reasons[reason] = reasons.get(reason, 0) + 1
        elif way < 0.75:
            self.tried(live, words, self.small_event(words, random))
        elif way < 0.85:
            self.undone(live, words, random.randint(0, 3))
        else:
            events = tuple(self.small_event(words, random) for _ in range(random.randint(0, 3)))
            self.all_done(live, words, self.small_events(words, events), random.random() < 0.5)

    def small_events(self, words, events):
        """As many of the events as leave the book small, whatever is carried out of them."""
        trial = OfficeByWords(words.book, words.ways)
        for k, event in enumerate(events):
            if trial.reason(event) is None:
                trial.go(event)
                if not is_small(trial.book):
                    return events[:k]
        return events

    def test_an_office_made_anew(self):
        random = Random(40)
        for book in samples.small_books()[1::6]:
            live, words = self.offices(book, ByDealings())
            for _ in range(6):
                event = self.small_event(words, random)
                if words.reason(event) is None:
                    self.gone(live, words, event)
            anew = LiveOffice(live.book_now())
            for pair in live.waived_now():
                anew.go(("waive", *pair))
            for name in ("book_now", "waived_now", "best_now", "allowed_best"):
                self.same(getattr(anew, name)(), getattr(live, name)())
            for _ in range(20):
                event = any_event(live.book_now(), live.waived_now(), random)
                self.same(anew.barred(event), live.barred(event))
                if live.barred(event) is None:
                    self.same(anew.tried(event), live.tried(event))
                    self.same(anew.go(event), live.go(event))
                    self.same([anew.undo(1), anew.book_now()], [live.undo(1), live.book_now()])

    def test_quiet_events(self):
        random = Random(41)
        quiet_words = {}
        for book in samples.small_books()[::4]:
            live, words = self.offices(book, ByDealings())
            for _ in range(12):
                event = self.small_event(words, random)
                before = words.book
                if words.reason(event) is not None:
                    continue
                self.gone(live, words, event)
                word = event[0]
                idle = truth.idle_pairs(before)
                always = word in ("pupil", "school", "waive", "claim") or (word == "strike" and event[1:] in idle)
                if word == "wish":
                    always = event[1:3] in idle and event[3] >= before[0][event[1]].index(event[2])
                if word == "roll":
                    always = event[2:0:-1] in idle and event[3] >= before[1][event[1]].index(event[2])
                if always:
                    self.same(live.quiet_now(), True, (before, event))
                    quiet_words[word] = quiet_words.get(word, 0) + 1
        for word in ("pupil", "school", "waive", "strike", "wish", "roll"):
            self.assertGreater(quiet_words[word], 3, word)

    def test_loud_events(self):
        live = LiveOffice(samples.FOUR)
        for event in (("strike", 1, 0), ("wish", 0, 2, 0), ("seats", 0, 2), ("roll", 0, 3, 0)):
            live.go(event)
            self.same(live.quiet_now(), ByDealings().is_quiet(samples.FOUR, live.book_now()), event)
            live.undo(1)
        live.go(("strike", 1, 0))
        self.same(live.quiet_now(), False)
        live.go(("pupil",))
        self.same(live.quiet_now(), True)
        live.undo(1)
        self.same(live.quiet_now(), False)
        live.undo(1)
        self.same(live.quiet_now(), True)


class LargeOfficeTest(OfficeCase):
    def test_forty_events(self):
        live, words = self.offices(samples.FOUR, ByAsking())
        for k in range(40):
            self.gone(live, words, ("waive", 3, 0) if k % 2 == 0 else ("claim", 3, 0))
        self.agree(live, words)
        self.same(live.barred(("pupil",)), "many")
        self.same(live.barred(None), "form")
        for event in (("pupil",), ("waive", 9, 9), ("waive", 3, 0), ("wish", 0, 1, 9), None, ("school", 0)):
            self.same(self.gone(live, words, event), "many" if is_event(event) else "form")
            self.tried(live, words, event)
        self.agree(live, words)
        self.all_done(live, words, (("pupil",),), True)
        self.undone(live, words, 41)
        self.undone(live, words, 2)
        self.agree(live, words)
        # Two more may be carried out, the third is refused.
        self.all_done(live, words, (("pupil",),) * 3, False)
        self.agree(live, words)
        self.all_done(live, words, (("pupil",),) * 3, True)
        self.agree(live, words)
        self.same(live.tally(), (44, 4, 15, 0))
        self.undone(live, words, 40)
        self.agree(live, words)
        self.same(live.book_now(), samples.FOUR)

    def test_twelve_pupils_twelve_schools_sixty_pairs(self):
        random = Random(42)
        for book in samples.large_books():
            live, words = self.offices(book, ByAsking())
            carried = 0
            while carried < 16:
                event = any_event(words.book, words.waived, random)
                if self.gone(live, words, event) is None:
                    carried += 1
                    if carried % 4 == 0:
                        self.agree(live, words)
                        self.tried(live, words, any_event(words.book, words.waived, random))
            self.undone(live, words, random.randint(1, 12))
            self.agree(live, words)

    def test_size(self):
        book = samples.large_books()[2]
        self.assertEqual((len(book[0]), len(book[1]), len(truth.pairs(book))), (12, 12, 60))
        live, words = self.offices(book, ByAsking())
        there = truth.pairs(book)[0]
        for event in (("pupil",), ("school", 1), ("pair", 0, 0, 9, 9), ("pair", *there, 0, 0), ("pair", 99, 99, 0, 0)):
            self.same(self.gone(live, words, event), "size")
            self.tried(live, words, event)
        self.agree(live, words)
        self.same(self.gone(live, words, ("strike", *there)), None)
        self.same(self.gone(live, words, ("pair", *there, 5, 0)), "place")
        self.same(self.gone(live, words, ("pair", *there, 0, 0)), None)
        self.same(self.gone(live, words, ("pair", 99, 99, 0, 0)), "size")

    def test_eleven_pupils_and_schools(self):
        book = (((),) * 11, ((),) * 11, (1,) * 11)
        live, words = self.offices(book, ByAsking())
        for event in (("pupil",), ("pupil",), ("school", 3), ("school", 1), ("pair", 11, 11, 0, 0)):
            self.gone(live, words, event)
        self.agree(live, words)
        self.same(live.tally(), (3, 0, 2, 0))
        self.same(live.best_now(), ((11, 11),))


class RefusalsTest(OfficeCase):
    def told(self, live):
        """All that the office tells but its tally."""
        names = ("book_now", "waived_now", "log", "best_now", "allowed_best", "quiet_now")
        return [getattr(live, name)() for name in names]

    def refusal(self, live, event, reason):
        before, tally = self.told(live), live.tally()
        self.same(live.barred(event), reason, event)
        self.same(live.tally(), tally)
        for call in (live.go, live.tried):
            with self.assertRaises(InvalidEvent) as caught:
                call(event)
            self.assertIs(caught.exception.event, event)
            self.same(caught.exception.reason, reason)
        self.same(live.tally(), tally[:2] + (tally[2] + 2, tally[3]))
        self.same(self.told(live), before)

    def test_form(self):
        live = LiveOffice(samples.FOUR)
        for event in NO_EVENTS + (("strike", 0, True), ("waive", "3", 0), ("pair", 9, 9, 9, -1), {}, ("school", -1)):
            self.refusal(live, event, "form")

    def test_absent(self):
        live = LiveOffice(samples.FOUR)
        for word in ("wish", "roll", "strike", "waive", "claim", "pair"):
            for one, two in ((4, 0), (0, 4), (9, 9), (10 ** 59, 0)):
                more = {"wish": (9,), "roll": (9,), "pair": (9, 9)}.get(word, ())
                self.refusal(live, (word, one, two, *more), "absent")
        for event in (("wish", 1, 2, 9), ("roll", 2, 1, 9), ("strike", 1, 2), ("waive", 1, 2), ("claim", 1, 2)):
            self.refusal(live, event, "absent")
        self.refusal(live, ("pair", 0, 0, 9, 9), "absent")
        self.refusal(live, ("pair", 3, 3, 0, 0), "absent")
        self.refusal(live, ("seats", 4, 1), "absent")
        # The school stands first in "roll".
        book = (((1,), ()), ((), (0,), ()), (1, 1, 1))
        self.refusal(LiveOffice(book), ("roll", 0, 1, 0), "absent")
        self.refusal(LiveOffice(book), ("roll", 2, 0, 0), "absent")
        self.same(LiveOffice(book).barred(("roll", 1, 0, 0)), None)
        self.same(LiveOffice(book).barred(("wish", 0, 1, 0)), None)
        self.refusal(LiveOffice(book), ("wish", 1, 0, 0), "absent")
        self.same(LiveOffice(book).barred(("pair", 1, 2, 0, 0)), None)

    def test_place(self):
        live = LiveOffice(samples.FOUR)
        for event in (("wish", 0, 1, 3), ("wish", 3, 0, 2), ("roll", 0, 3, 4), ("roll", 3, 3, 1), ("wish", 0, 1, 99)):
            self.refusal(live, event, "place")
        for event in (("pair", 1, 2, 3, 0), ("pair", 1, 2, 0, 3), ("pair", 1, 2, 9, 9)):
            self.refusal(live, event, "place")
        for event in (("wish", 0, 1, 2), ("roll", 0, 3, 3), ("pair", 1, 2, 2, 2), ("pair", 1, 2, 0, 0)):
            self.same(live.barred(event), None)

    def test_rightful_and_waived(self):
        live = LiveOffice(samples.FOUR)
        for pair in truth.rightful_pairs(samples.FOUR):
            self.refusal(live, ("waive", *pair), "rightful")
            self.refusal(live, ("claim", *pair), "waived")
        self.refusal(live, ("claim", 3, 0), "waived")
        live.go(("waive", 3, 0))
        self.refusal(live, ("waive", 3, 0), "waived")
        self.refusal(live, ("claim", 2, 0), "waived")
        self.same(live.barred(("claim", 3, 0)), None)
        live.go(("claim", 3, 0))
        self.refusal(live, ("claim", 3, 0), "waived")
        self.same(live.barred(("waive", 3, 0)), None)

    def test_undo(self):
        live = LiveOffice(samples.FOUR)
        live.go(("waive", 3, 0))
        live.go(("pupil",))

        def make():
            made = LiveOffice(samples.FOUR)
            made.do_all((("waive", 3, 0), ("pupil",), ("school", 2)), True)
            return made

        rows = unusable("many", (None, "", "1", True, False, (1,), [1], -1, -2))
        rows += [("many", many, NothingToUndo, {"steps": 3}) for many in (4, 5, 10 ** 59)]
        self.hold_method(make, "undo", {"many": 2}, rows)
        self.same(make().undo(2), (("pupil",), ("school", 2)))
        self.same(make().undo(3), (("waive", 3, 0), ("pupil",), ("school", 2)))
        self.same(make().undo(0), ())
        self.refuses(NothingToUndo, {"steps": 2}, live.undo, 3)
        self.same(live.tally(), (2, 0, 0, 0))
        self.refuses(NothingToUndo, {"steps": 0}, LiveOffice(samples.FOUR).undo, 1)

    def test_do_all(self):
        def make():
            return LiveOffice(samples.FOUR)

        events = unusable("events", (None, 0, True, "", "pupil", [], [("pupil",)]))
        keeps = unusable("keep", (None, 0, 1, "", "True", (), [True]))
        right = {"events": (("waive", 3, 0), ("pupil",)), "keep": True}
        self.hold_method(make, "do_all", right, events, keeps)
        live = make()
        self.not_usable("keep", live.do_all, (None,), 1)
        self.same(live.tally(), (0, 0, 0, 0))

    def test_do_all_keeps_or_takes_back(self):
        events = (("waive", 3, 0), ("strike", 3, 0), ("waive", 3, 0), ("pupil",))
        for keep, log, tally in ((True, events[:2], (2, 0, 1, 0)), (False, (), (2, 2, 1, 0))):
            live = LiveOffice(samples.FOUR)
            with self.assertRaises(InvalidEvent) as caught:
                live.do_all(events, keep)
            self.assertIs(caught.exception.event, events[2])
            self.same(caught.exception.reason, "absent")
            self.same([live.log(), live.tally()], [log, tally])
            self.same(live.book_now(), samples.LESS if keep else samples.FOUR)
            self.same(live.waived_now(), ())
        live = LiveOffice(samples.FOUR)
        live.go(("waive", 2, 0))
        with self.assertRaises(InvalidEvent):
            live.do_all((("waive", 3, 0), "x"), keep=False)
        self.same([live.log(), live.waived_now()], [(("waive", 2, 0),), ((2, 0),)])
        self.same(live.do_all(events=events[:2], keep=False), 2)
        self.same(live.tally(), (4, 1, 1, 0))

    def test_two_offices(self):
        one, two = LiveOffice(samples.FOUR), LiveOffice(samples.FOUR)
        one.go(("waive", 3, 0))
        one.go(("seats", 0, 2))
        self.assertRaises(InvalidEvent, one.go, None)
        self.same([two.log(), two.waived_now(), two.book_now()], [(), (), samples.FOUR])
        self.same([two.tally(), two.best_now()], [(0, 0, 0, 0), samples.BEST])
        two.go(("pupil",))
        two.tried(("pupil",))
        self.same(one.tally(), (2, 0, 1, 0))
        self.same(one.log(), (("waive", 3, 0), ("seats", 0, 2)))
        log = one.log()
        one.undo(2)
        self.same(log, (("waive", 3, 0), ("seats", 0, 2)))
