"""The strength of a pipe, and which pipes can be told in spite of which faults."""

from ringvotes.checks import check_faults, check_net, check_pipe
from ringvotes.ways import meters_at, sealed_at, shortest_ways
from ringvotes.worlds import readings_of


def strength(net, pipe):
    """The least number of meters on a ring through a pipe without sealed meters, None if there is no such ring."""
    check_net(net)
    check_pipe(net, pipe)
    way = _way_back(net, pipe)
    return None if way is None else way[0] + len(meters_at(net, pipe))


def ring_through(net, pipe):
    """A flow round a ring that shows the strength of a pipe, None if the strength is None."""
    check_net(net)
    check_pipe(net, pipe)
    way = _way_back(net, pipe)
    if way is None:
        return None
    return tuple([1 if part.name == pipe else amount for part, amount in zip(net.pipes, way[1])])


def can_tell(net, pipe, faults):
    """Whether a pipe can be told for some faults."""
    check_net(net)
    check_pipe(net, pipe)
    check_faults(faults)
    least = strength(net, pipe)
    return least is None or least > sum(faults)


def misleading(net, pipe, faults):
    """Two worlds with the same readings that show that a pipe cannot be told, None if it can."""
    if can_tell(net, pipe, faults):
        return None
    still = tuple([0 for _ in net.pipes])
    ring = ring_through(net, pipe)
    readings = _seen_in_both(net, ring, faults)
    return ((still, readings), (ring, readings))


def _way_back(net, pipe):
    """The shortest way from the end of a pipe to its start, None if there is none or a sealed meter at the pipe."""
    if sealed_at(net, pipe):
        return None
    return shortest_ways(net, pipe).get(net.pipe(pipe).start)


def _seen_in_both(net, ring, faults):
    """Readings for the world without flow and for the one with this ring.

    The first meters on the ring show its flow, so that they are wrong in the first world; some are silent; the
    others show 0, so that they are wrong in the second world.
    """
    healed, _, silent = faults
    readings = []
    met = 0
    for amount in readings_of(net, ring):
        if amount == 0:
            readings.append(0)
            continue
        if met < healed:
            readings.append(amount)
        else:
            readings.append(None if met < healed + silent else 0)
        met += 1
    return tuple(readings)
