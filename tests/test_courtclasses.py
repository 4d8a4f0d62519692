"""Point 82: a hearing as an object."""

from random import Random

from idleclaims.answers import winning_answer
from idleclaims.courtclasses import Court
from idleclaims.errors import NothingToUndo
from tests import deepbooks, samples, truth
from tests.support import Case, no_dealings, unusable
from tests.test_naming import heard, nameable

FOUR, STILL, BEST, SWAP = samples.FOUR, samples.STILL, samples.BEST, samples.SWAP
THREE = ((3, 0),)


class CourtTest(Case):
    def tells(self, court, book, hearing):
        """Everything that the object tells when these dealings have lain on the table."""
        self.same([court.on_table(), court.namings()], [hearing[-1], tuple(hearing[1:])])
        self.same(court.has_ended(), truth.claims(book, hearing[-1]) == ())

    def test_example(self):
        court = Court(FOUR, SWAP)
        result = [court.answer() == BEST, court.answer(), court.name(THREE), court.answer() == STILL, court.has_ended()]
        self.same(result, [True, None, None, True, True])
        self.same([court.back(2), court.namings() == (BEST,), court.on_table() == BEST], [None, True, True])
        self.refuses(NothingToUndo, {"steps": 1}, court.back, 2)
        self.tells(court, FOUR, [SWAP, BEST])

    def test_calls_by_chance(self):
        random = Random(92)
        longest = 0
        for book in samples.small_books()[::2] + deepbooks.DEEP + samples.EDGES:
            hearing = [random.choice(truth.dealings(book))]
            court = Court(book, hearing[0])
            for _ in range(10):
                self.tells(court, book, hearing)
                way = random.random()
                if way < 0.35 and nameable(book, hearing[-1]):
                    other = random.choice(nameable(book, hearing[-1]))
                    self.same(court.name(other), None)
                    hearing.append(other)
                elif way < 0.6:
                    answer = winning_answer(book, hearing[-1])
                    self.same(court.answer(), answer)
                    hearing += [] if answer is None else [answer]
                elif way < 0.7:
                    many = random.randint(0, len(hearing) - 1)
                    self.same(court.back(many), None)
                    del hearing[len(hearing) - many:]
                elif way < 0.8:
                    steps = len(hearing) - 1
                    self.refuses(NothingToUndo, {"steps": steps}, court.back, steps + random.randint(1, 3))
                else:
                    self.refused_naming(court, book, hearing[-1], random)
                longest = max(longest, len(hearing))
            self.tells(court, book, hearing)
        self.assertGreater(longest, 4)

    def refused_naming(self, court, book, table, random):
        wrong = [m for m in truth.dealings(book) if not heard(book, table, m)]
        self.not_usable("other", court.name, random.choice(wrong + [None, 0, [], "", ((), ())]))

    def test_answers(self):
        for book in samples.small_books()[::3] + deepbooks.DEEP:
            told = truth.hearing(book)
            for dealing in truth.dealings(book)[::11] + truth.rightfuls(book):
                court = Court(book, dealing)
                answer = court.answer()
                self.same(answer is not None, told[dealing][0])
                self.tells(court, book, [dealing] + [answer] * (answer is not None))
                if answer is not None:
                    self.same(told[answer][0], False)
                self.same(court.answer(), None)

    def test_taking_back(self):
        court = Court(FOUR, SWAP)
        self.same(court.back(0), None)
        self.refuses(NothingToUndo, {"steps": 0}, court.back, 1)
        court.name(BEST)
        court.name(other=THREE)
        court.name(STILL)
        told = court.namings()
        self.refuses(NothingToUndo, {"steps": 3}, court.back, 4)
        self.same([court.back(0), court.on_table(), told], [None, STILL, (BEST, THREE, STILL)])
        self.same([court.back(many=1), court.on_table(), court.has_ended()], [None, THREE, False])
        self.same([court.back(2), court.on_table(), court.namings()], [None, SWAP, ()])
        self.same(told, (BEST, THREE, STILL))
        self.tells(court, FOUR, [SWAP])

    def test_refused_namings_change_nothing(self):
        court = Court(FOUR, SWAP)
        court.name(BEST)
        for thing in no_dealings(FOUR) + [(), BEST, STILL, ((1, 0),), SWAP]:
            self.not_usable("other", court.name, thing)
            self.tells(court, FOUR, [SWAP, BEST])
        court.name(THREE)
        self.tells(court, FOUR, [SWAP, BEST, THREE])

    def test_two_objects(self):
        one, two = Court(FOUR, SWAP), Court(FOUR, SWAP)
        one.answer()
        self.tells(two, FOUR, [SWAP])
        two.name(((1, 0), (2, 2)))
        one.back(1)
        self.tells(one, FOUR, [SWAP])
        self.tells(two, FOUR, [SWAP, ((1, 0), (2, 2))])

    def test_large_books(self):
        for book in samples.large_books():
            court = Court(book, ())
            top = truth.asked_by_pupils(book, range(12))[0]
            self.same([court.answer(), court.has_ended(), court.answer()], [top, True, None])
            self.same([court.namings(), court.back(1), court.on_table()], [(top,), None, ()])

    def test_nobody(self):
        for book in samples.EDGES[:4]:
            court = Court(book, ())
            self.same([court.on_table(), court.namings(), court.has_ended(), court.answer()], [(), (), True, None])
            self.not_usable("other", court.name, ())

    def test_parameters(self):
        def make():
            made = Court(FOUR, SWAP)
            made.answer()
            return made

        right = {"book": FOUR, "dealing": SWAP}
        self.hold_class("courtclasses", Court, right, unusable("dealing", no_dealings(FOUR)))
        for name in ("answer", "on_table", "namings", "has_ended"):
            self.hold_method(make, name, {})
        self.hold_method(make, "name", {"other": THREE}, unusable("other", no_dealings(FOUR) + [(), STILL, BEST]))
        many = unusable("many", (None, "", "1", True, False, (1,), [1], -1, -2))
        many += [("many", value, NothingToUndo, {"steps": 1}) for value in (2, 3, 10 ** 59)]
        self.hold_method(make, "back", {"many": 1}, many)
