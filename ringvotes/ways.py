"""Which meters stand at a pipe, and the ways through a net that pass the fewest meters."""


def meters_at(net, name):
    """The meters at a pipe, in the order of the net."""
    return [part for part in net.meters if part.at == name]


def sealed_at(net, name):
    """The names of the sealed meters at a pipe, in the order of the net."""
    return [part.name for part in meters_at(net, name) if part.sealed]


def shortest_ways(net, pipe):
    """A dict by the places that are reached from the end of a pipe without it and without shut pipes.

    Its values are pairs: how many meters the way passes, and its flow, which is 1 or -1 at each pipe on it.
    A pipe is shut if a sealed meter stands at it.
    """
    ways = {net.pipe(pipe).end: (0, _amounts(net, None, 0))}
    links = _links(net, pipe)
    # No shortest way has more pipes than the net, so this many rounds are enough.
    for _ in net.pipes:
        for start, end, many, amounts in links:
            _lead_on(ways, start, end, many, amounts)
    return ways


def _links(net, pipe):
    """The ways of one pipe, in both directions: the places, how many meters it passes, and its flow."""
    links = []
    for index, part in enumerate(net.pipes):
        if part.name != pipe and not sealed_at(net, part.name):
            many = len(meters_at(net, part.name))
            links.append((part.start, part.end, many, _amounts(net, index, 1)))
            links.append((part.end, part.start, many, _amounts(net, index, -1)))
    return links


def _amounts(net, index, amount):
    """For each pipe 0, but this amount at the pipe with this index."""
    return tuple([amount if at == index else 0 for at in range(len(net.pipes))])


def _lead_on(ways, start, end, many, amounts):
    """Takes the way to `start` and on to `end`, if there is one and it passes fewer meters than the one known."""
    if start not in ways:
        return
    length, flow = ways[start]
    # A way that is no shorter is not taken: so no way comes to a place twice.
    if end not in ways or length + many < ways[end][0]:
        ways[end] = (length + many, tuple([here + more for here, more in zip(flow, amounts)]))
