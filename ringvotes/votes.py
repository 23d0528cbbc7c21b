"""Sums that are equal to the flow of a pipe in all worlds without faults, and rules that let them vote."""

from ringvotes.checks import check_net, check_pipe, check_total
from ringvotes.heights import amounts_of, heights_for
from ringvotes.rules import Rule
from ringvotes.strengths import can_tell, strength
from ringvotes.sums import Sum
from ringvotes.ways import meters_at, sealed_at, shortest_ways
from ringvotes.worlds import by_name, check_readings, value_in


def is_vote(net, pipe, total):
    """Whether a sum is a vote for a pipe."""
    check_net(net)
    check_pipe(net, pipe)
    check_total(net, total)
    amounts = amounts_of(net, total)
    rest = [amount - 1 if part.name == pipe else amount for part, amount in zip(net.pipes, amounts)]
    return heights_for(net, rest) is not None


def votes(net, pipe):
    """As many votes for a pipe as its strength says; one of sealed meters only if this is None.

    No meter without a seal is in two of them.
    """
    check_net(net)
    check_pipe(net, pipe)
    sealed = sealed_at(net, pipe)
    if sealed:
        return (Sum.of(sealed[0]),)
    ways = shortest_ways(net, pipe)
    distances = {place: ways[place][0] for place in ways}
    if strength(net, pipe) is None:
        # All places that are reached send out through shut pipes only what the pipe brings in.
        return (_layer(net, pipe, distances, max(distances.values())),)
    layers = [_layer(net, pipe, distances, distance) for distance in range(distances[net.pipe(pipe).start])]
    return tuple([Sum.of(part.name) for part in meters_at(net, pipe)] + layers)


def tally(net, pipe, readings):
    """The values of the votes for a pipe, in their order, None for each one that is silent."""
    check_net(net)
    check_pipe(net, pipe)
    check_readings(net, readings)
    shown = by_name(net, readings)
    return tuple([value_in(shown, total) for total in votes(net, pipe)])


def voting_rule(net, pipe, faults):
    """A rule of votes that is right for a pipe and faults, None if the pipe cannot be told."""
    if not can_tell(net, pipe, faults):
        return None
    healed = faults[0]
    # With so many, more than `healed` right ones are left, whatever else is wrong or silent.
    totals = votes(net, pipe)[:sum(faults) + 1]
    return Rule.voting(healed, *totals)


def _layer(net, pipe, distances, distance):
    """The vote for what the places up to this distance from the end of a pipe send out."""
    terms = []
    for part in net.pipes:
        starts_in = _is_within(distances, part.start, distance)
        ends_in = _is_within(distances, part.end, distance)
        if part.name != pipe and starts_in != ends_in:
            terms.append((_meter_in_layer(net, part, distances, distance), 1 if starts_in else -1))
    return Sum(tuple(terms))


def _is_within(distances, place, distance):
    """Whether a place is reached and not farther away than this distance."""
    return place in distances and distances[place] <= distance


def _meter_in_layer(net, part, distances, distance):
    """The meter with which a pipe that leads out of a layer stands in it."""
    sealed = sealed_at(net, part.name)
    if sealed:
        return sealed[0]
    # The nearer end has a distance up to that of the layer, so each layer takes another one of the meters.
    nearer = min(distances[part.start], distances[part.end])
    return meters_at(net, part.name)[distance - nearer].name
