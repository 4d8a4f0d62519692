"""The rightful dealings that meet demands, laid out so that claims against them can be priced."""

from idleclaims.demands import breaking, is_met
from idleclaims.flows import greatest_flow, parts_of, ways_on
from idleclaims.spans import spans_in
from idleclaims.turnorder import TurnOrder

# What is always done; the turns follow it, and behind them stands what is never done.
ALWAYS = -1


class Pricing:
    """A net of arcs between turns; it never changes.

    An idle pair is an arc from the turn that opens its claim to the turn that closes it. A bond is an arc
    from a turn to one that is done wherever it is done. The turns done in a rightful dealing that meets
    the demands are cut off from the others: no bond leads out of them, and the pairs that do are those that
    claim. So the least price is that of a least cut, and what flows on one way is the amount of a block.
    """

    def __init__(self, book, demands):
        self.order = TurnOrder(book)
        self.never = len(self.order.turns)
        self.spans = spans_in(self.order)
        ahead = self.order.all_ahead()
        bonds = [(turn, other) for turn, others in enumerate(ahead) for other in others]
        bonds.extend([(turn, self.never) for turn in breaking(self.order, ahead, demands)])
        self.fits = is_met(book, demands, self.order.stages[0])
        if not self.fits:
            bonds.append((ALWAYS, self.never))
        self.bonds = bonds

    def can_meet(self):
        """Does a rightful dealing meet the demands?"""
        return self.fits

    def least(self, prices):
        """The least price of a rightful dealing that meets the demands; there must be one."""
        arcs = self._arcs(prices)
        flows = greatest_flow(arcs, ALWAYS, self.never)
        return sum([flows[k] for k, (start, _, _) in enumerate(arcs) if start == ALWAYS])

    def cheapest(self, prices):
        """Of the dealings with the least price the one that the pupils like most; there must be one."""
        arcs = self._arcs(prices)
        flows = greatest_flow(arcs, ALWAYS, self.never)
        reached = ways_on(arcs, flows, ALWAYS, self.never)
        return self.order.made_by([turn for turn in range(self.never) if turn in reached])

    def blocks(self, prices):
        """Amounts with blocks that together show the least price; a rightful dealing must meet the demands."""
        arcs = self._arcs(prices)
        flows = greatest_flow(arcs, ALWAYS, self.never)
        parts = parts_of(arcs, flows, ALWAYS, self.never)
        return tuple([(amount, self._pairs_on(way)) for amount, way in parts])

    def is_block(self, pairs):
        """Does one of these idle pairs at least claim against each rightful dealing that meets the demands?"""
        arcs = self._arcs([1 if pair in pairs else 0 for pair, _, _ in self.spans])
        return self.never in ways_on(arcs, [0 for _ in arcs], ALWAYS, self.never)

    def _arcs(self, rooms):
        """The arcs of the idle pairs, with these rooms, then the bonds, with more room than all of them."""
        pairs = [(opens, closes, room) for (_, opens, closes), room in zip(self.spans, rooms)]
        return pairs + [(start, end, sum(rooms) + 1) for start, end in self.bonds]

    def _pairs_on(self, way):
        """The set of the idle pairs among these arcs."""
        return tuple([self.spans[k][0] for k in sorted(way) if k < len(self.spans)])
