"""Pupils ask, or schools ask: what stands at the end, and who was refused."""


def pupils_deal(book):
    """What stands when pupils ask and nobody has anything left to ask."""
    dealing, _ = _pupils_ask(book)
    return dealing


def schools_deal(book):
    """What stands when schools ask and nobody has anything left to ask."""
    dealing, _ = _schools_ask(book)
    return dealing


def refused_asked(book):
    """The set of the pairs whose school refuses the pupil when pupils ask."""
    _, refused = _pupils_ask(book)
    return refused


def refused_asking(book):
    """The set of the pairs whose pupil refuses the school when schools ask."""
    _, refused = _schools_ask(book)
    return refused


def _pupils_ask(book):
    wishes, rolls, seats = book
    refusals = [0 for _ in wishes]
    held = [[] for _ in rolls]
    refused = []
    waiting = list(range(len(wishes)))
    while waiting:
        pupil = waiting.pop()
        if refusals[pupil] < len(wishes[pupil]):
            school = wishes[pupil][refusals[pupil]]
            held[school].append(pupil)
            if len(held[school]) > seats[school]:
                least = _least_of(rolls[school], held[school])
                held[school].remove(least)
                refused.append((least, school))
                refusals[least] += 1
                waiting.append(least)
    dealing = sorted([(pupil, school) for school, pupils in enumerate(held) for pupil in pupils])
    return (tuple(dealing), tuple(sorted(refused)))


def _least_of(roll, pupils):
    return max(pupils, key=lambda pupil: roll.index(pupil))


def _schools_ask(book):
    wishes, rolls, seats = book
    asked = [0 for _ in rolls]
    places = {}
    free = list(seats)
    refused = []
    waiting = list(range(len(rolls)))
    while waiting:
        school = waiting.pop()
        if free[school] > 0 and asked[school] < len(rolls[school]):
            pupil = rolls[school][asked[school]]
            asked[school] += 1
            free[school] -= 1
            offers = [school, places[pupil]] if pupil in places else [school]
            places[pupil] = _best_of(wishes[pupil], offers)
            for other in offers:
                if other != places[pupil]:
                    refused.append((pupil, other))
                    free[other] += 1
                    waiting.append(other)
            waiting.append(school)
    return (tuple(sorted(places.items())), tuple(sorted(refused)))


def _best_of(wish, schools):
    return min(schools, key=lambda school: wish.index(school))
