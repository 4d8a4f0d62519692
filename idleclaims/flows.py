"""The greatest flow along arcs, each a triple (where from, where to, room)."""


def ways_on(arcs, flows, source, sink):
    """A shortest way on from the source to each place that can be reached, until the sink is reached.

    A way consists of pairs (number of the arc, 1 along it or -1 back); flows has what flows along each arc.
    """
    ways = {source: ()}
    waiting = [source]
    at = 0
    while at < len(waiting) and sink not in ways:
        here = waiting[at]
        for step, there in _steps_from(arcs, flows, here):
            if there not in ways:
                ways[there] = ways[here] + (step,)
                waiting.append(there)
        at += 1
    return ways


def greatest_flow(arcs, source, sink):
    """How much flows along each arc if as much as possible flows from the source to the sink."""
    flows = [0 for _ in arcs]
    way = ways_on(arcs, flows, source, sink).get(sink)
    while way is not None:
        most = min([arcs[k][2] - flows[k] if sign == 1 else flows[k] for k, sign in way])
        for k, sign in way:
            flows[k] += sign * most
        way = ways_on(arcs, flows, source, sink).get(sink)
    return flows


def parts_of(arcs, flows, source, sink):
    """The flow taken apart: pairs of an amount and the numbers of the arcs of a way from the source to the sink."""
    left = list(flows)
    parts = []
    way = _flowing_way(arcs, left, source, sink)
    while way is not None:
        amount = min([left[k] for k in way])
        parts.append((amount, way))
        for k in way:
            left[k] -= amount
        way = _flowing_way(arcs, left, source, sink)
    return parts


def _steps_from(arcs, flows, here):
    """The steps from here, each with where it leads: along arcs with room left, back along those that flow."""
    steps = []
    for k, (start, end, room) in enumerate(arcs):
        if start == here and flows[k] < room:
            steps.append(((k, 1), end))
        if end == here and flows[k] > 0:
            steps.append(((k, -1), start))
    return steps


def _flowing_way(arcs, left, source, sink):
    """The numbers of the arcs of a way along which something flows; None if there is none."""
    flowing = [(start, end, amount) for (start, end, _), amount in zip(arcs, left)]
    way = ways_on(flowing, [0 for _ in arcs], source, sink).get(sink)
    return None if way is None else [k for k, _ in way]
