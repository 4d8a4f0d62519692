"""Pupils ask or schools ask, one at a time; each of the two begins with nobody having asked."""


class PupilsAsking:
    """Pupils ask; side tells where the asker stands in a pair."""

    def __init__(self, book):
        self.wishes, self.rolls, self.seats = book
        self.side = 0
        self.refusals = [0 for _ in self.wishes]
        self.place_map = {}
        self.held_lists = [[] for _ in self.rolls]

    def is_free(self, pupil):
        """Has the pupil no place?"""
        return pupil not in self.place_map

    def next_pair(self, pupil):
        """The pupil with the school that it asks next, or None if all of its list have refused it."""
        wish = self.wishes[pupil]
        at = self.refusals[pupil]
        return (pupil, wish[at]) if at < len(wish) else None

    def ask(self, pupil):
        """The pupil, which can ask, asks its next school; returns the pair that is refused, or None."""
        _, school = self.next_pair(pupil)
        held, roll = self.held_lists[school], self.rolls[school]
        self.place_map[pupil] = school
        held.append(pupil)
        if len(held) <= self.seats[school]:
            return None
        least = max(held, key=lambda other: roll.index(other))
        held.remove(least)
        del self.place_map[least]
        self.refusals[least] += 1
        return (least, school)


class SchoolsAsking:
    """Schools ask; side tells where the asker stands in a pair."""

    def __init__(self, book):
        self.wishes, self.rolls, seats = book
        self.side = 1
        self.asked = [0 for _ in self.rolls]
        self.place_map = {}
        self.free = list(seats)

    def is_free(self, school):
        """Has the school a free seat?"""
        return self.free[school] > 0

    def next_pair(self, school):
        """The pupil that the school asks next with the school, or None if it has asked all of its list."""
        roll = self.rolls[school]
        at = self.asked[school]
        return (roll[at], school) if at < len(roll) else None

    def ask(self, school):
        """The school, which can ask, asks its next pupil; returns the pair that is refused, or None."""
        pupil, _ = self.next_pair(school)
        wish = self.wishes[pupil]
        place = self.place_map.get(pupil)
        self.asked[school] += 1
        if place is not None and wish.index(place) < wish.index(school):
            return (pupil, school)
        self.place_map[pupil] = school
        self.free[school] -= 1
        if place is None:
            return None
        self.free[place] += 1
        return (pupil, place)


def can_ask(asking, asker):
    return asking.is_free(asker) and asking.next_pair(asker) is not None


def standing(asking):
    """The dealing that stands now."""
    return tuple(sorted(asking.place_map.items()))


def ask_all(asking, many):
    """The askers, so many, ask until nobody can; returns the set of the refused pairs."""
    refused = []
    waiting = list(range(many))
    while waiting:
        asker = waiting.pop()
        if can_ask(asking, asker):
            out = asking.ask(asker)
            waiting.append(asker)
            if out is not None:
                refused.append(out)
                waiting.append(out[asking.side])
    return tuple(sorted(refused))
