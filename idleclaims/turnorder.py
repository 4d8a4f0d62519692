"""The turns of a book in the sequence in which they lead down from the best dealing."""

from idleclaims.best import firsts_in
from idleclaims.bookparts import likings
from idleclaims.lastbook import last_book
from idleclaims.seating import Seating
from idleclaims.turning import turned_in, turnings_in
from idleclaims.walks import walk_from


class TurnOrder:
    """The turns of a book, and which are ahead of which; it never changes."""

    def __init__(self, book):
        self.book = book
        self.lowest = last_book(book)
        # The dealings on the way down: behind stage k the turn k is done.
        self.stages = walk_from(self.lowest, firsts_in(self.lowest))
        self.turns = tuple([_turn_between(here, there) for here, there in zip(self.stages, self.stages[1:])])

    def done(self, dealing):
        """The set of the numbers of the turns that are done in this rightful dealing."""
        liked = likings(self.book, dealing)
        wishes = self.book[0]
        return tuple([
            k
            for k, turn in enumerate(self.turns)
            if all([wishes[pupil].index(there) <= liked[pupil] for pupil, _, there in turn])
        ])

    def all_ahead(self):
        """For each turn the set of the numbers of the turns that are ahead of it."""
        many = len(self.turns)
        done_without = [self.done(self._lowest_without(turn)) for turn in range(many)]
        return tuple([_besides(done_without, turn) for turn in range(many)])

    def made_by(self, turns):
        """The rightful dealing in which these turns are done, all being there that are ahead of them."""
        places = dict(self.stages[0])
        for turn in turns:
            for pupil, _, there in self.turns[turn]:
                places[pupil] = there
        return tuple(places.items())

    def _lowest_without(self, turn):
        """The last dealing to which turns other than this one lead."""
        # Turnings at one dealing share no pupil, so that the turn stays possible until it is done.
        least = self.turns[turn][0][0]
        seating = Seating(self.lowest, self.stages[turn])
        others = _turnings_without(seating, least)
        while others:
            seating = Seating(self.lowest, turned_in(seating, others[0]))
            others = _turnings_without(seating, least)
        return seating.dealing


def _turn_between(here, there):
    """The moves that lead from one dealing to another one with the same pupils."""
    places = dict(there)
    return tuple([(pupil, school, places[pupil]) for pupil, school in here if places[pupil] != school])


def _besides(done_without, turn):
    """The numbers of the others without which this turn cannot be done."""
    return tuple([other for other, done in enumerate(done_without) if other != turn and turn not in done])


def _turnings_without(seating, least):
    """The turnings here but for the one with this least pupil."""
    return [turning for turning in turnings_in(seating) if turning[0] != least]
