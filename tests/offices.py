"""An office as the document tells it: a list of what stood behind each event, counted out by the tests."""

from tests import truth
from tests.test_bestunder import struck_rows
from tests.test_officeevents import FORMS

WORDS = tuple(FORMS)


def is_event(thing):
    if type(thing) is not tuple or not thing or type(thing[0]) is not str or thing[0] not in FORMS:
        return False
    many, from_one = FORMS[thing[0]]
    numbers = thing[1:]
    if len(numbers) != many or not all(type(number) is int and number >= 0 for number in numbers):
        return False
    return from_one is None or numbers[from_one] >= 1


def put(listed, entry, place):
    rest = [other for other in listed if other != entry]
    rest.insert(place, entry)
    return tuple(rest)


def book_behind(book, event):
    """The book behind an event that may be carried out."""
    word, *numbers = event
    wishes, rolls, seats = map(list, book)
    if word == "pupil":
        wishes.append(())
    elif word == "school":
        rolls.append(())
        seats.append(numbers[0])
    elif word == "pair":
        a, b, place, other = numbers
        wishes[a], rolls[b] = put(wishes[a], b, place), put(rolls[b], a, other)
    elif word == "wish":
        a, b, place = numbers
        wishes[a] = put(wishes[a], b, place)
    elif word == "roll":
        b, a, place = numbers
        rolls[b] = put(rolls[b], a, place)
    elif word == "seats":
        seats[numbers[0]] = numbers[1]
    elif word == "strike":
        return truth.struck(book, (tuple(numbers),))
    return (tuple(wishes), tuple(rolls), tuple(seats))


class ByDealings:
    """Idle pairs and best dealings of a small book, by going through all its dealings."""

    def idle(self, book):
        return truth.idle_pairs(book)

    def best(self, book):
        return truth.best(book)

    def allowed_best(self, book, waived):
        allowed = [m for m in truth.dealings(book) if set(truth.claims(book, m)) <= set(waived)]
        found = [m for m in allowed if all(truth.gainers(book, m, n) == () for n in allowed)]
        assert len(found) == 1
        return found[0]

    def is_quiet(self, before, book):
        return set(truth.rightfuls(before)) == set(truth.rightfuls(book))


class ByAsking:
    """The same for books of any size, by striking, asking and turning."""

    def idle(self, book):
        return struck_rows(book)

    def best(self, book):
        return self.allowed_best(book, self.idle(book))

    def allowed_best(self, book, waived):
        return truth.asked_by_pupils(truth.struck(book, waived), range(len(book[0])))[0]

    def is_quiet(self, before, book):
        return self.rightfuls(before) == self.rightfuls(book)

    def rightfuls(self, book):
        """All rightful dealings, by turnings in the last book."""
        left = truth.struck(book, self.idle(book))
        found, waiting = set(), [self.best(book)]
        while waiting:
            here = waiting.pop()
            if here not in found:
                found.add(here)
                waiting += [truth.turned(left, here, turning) for turning in truth.turnings(left, here)]
        return found


class OfficeByWords:
    """What stands behind each event, first one the beginning, and the four counts."""

    def __init__(self, book, ways):
        self.ways = ways
        self.stood = [(None, book, ())]
        self.counts = [0, 0, 0, 0]

    @property
    def book(self):
        return self.stood[-1][1]

    @property
    def waived(self):
        return self.stood[-1][2]

    def log(self):
        return tuple(event for event, _, _ in self.stood[1:])

    def reason(self, event):
        wishes, rolls, _ = self.book
        if not is_event(event):
            return "form"
        if len(self.stood) - 1 == 40:
            return "many"
        word, *numbers = event
        pairs = truth.pairs(self.book)
        if (word, True) in (("pupil", len(wishes) == 12), ("school", len(rolls) == 12), ("pair", len(pairs) == 60)):
            return "size"
        if word in ("pupil", "school"):
            return None
        if word == "seats":
            return None if numbers[0] < len(rolls) else "absent"
        a, b = numbers[:2] if word != "roll" else numbers[1::-1]
        if a >= len(wishes) or b >= len(rolls) or ((a, b) in pairs) is (word == "pair"):
            return "absent"
        rooms = {
            "wish": [len(wishes[a]) - 1], "roll": [len(rolls[b]) - 1], "pair": [len(wishes[a]), len(rolls[b])]
        }.get(word, [])
        if any(number > room for number, room in zip(numbers[2:], rooms)):
            return "place"
        if word == "waive" and (a, b) not in self.ways.idle(self.book):
            return "rightful"
        if (word == "waive" and (a, b) in self.waived) or (word == "claim" and (a, b) not in self.waived):
            return "waived"
        return None

    def behind(self, event):
        """The book and the waived pairs behind an event that may be carried out."""
        waived = set(self.waived)
        if event[0] == "waive":
            waived.add(event[1:])
        if event[0] == "claim":
            waived.remove(event[1:])
        book = book_behind(self.book, event)
        return (book, tuple(sorted(waived.intersection(self.ways.idle(book)))))

    def go(self, event):
        before = self.waived
        self.stood.append((event, *self.behind(event)))
        self.counts[0] += 1
        return tuple(pair for pair in before if pair not in self.waived)

    def undo(self, many):
        undone = self.log()[len(self.stood) - 1 - many:]
        del self.stood[len(self.stood) - many:]
        self.counts[1] += many
        return undone


def any_event(book, waived, random):
    """An event by chance, mostly one that may be carried out."""
    wishes, rolls, _ = book
    pairs = truth.pairs(book)
    word = random.choice(WORDS + ("waive", "pair", "strike", "wish", "roll"))
    if word == "pupil":
        return (word,)
    if word == "school":
        return (word, random.randint(1, 2))
    if word == "seats":
        return (word, random.randint(0, len(rolls)), random.randint(1, 3))
    a, b = random.randint(0, len(wishes)), random.randint(0, len(rolls))
    if word == "pair":
        return (word, a, b, random.randint(0, 3), random.randint(0, 3))
    if pairs and random.random() < 0.9:
        a, b = random.choice(waived if word == "claim" and waived else pairs)
    if word == "wish":
        return (word, a, b, random.randint(0, 3))
    if word == "roll":
        return (word, b, a, random.randint(0, 3))
    return (word, a, b)
