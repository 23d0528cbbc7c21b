"""Answers with certificates that the checker accepts."""

from ringvotes.additions import cheapest, split_by_price
from ringvotes.checks import check_net
from ringvotes.compared import parting_flow
from ringvotes.fits import clash_of, fitting_readings, readings_in
from ringvotes.judging import fooled
from ringvotes.pairs import greatest_pairs
from ringvotes.rings import ring_closed, rings_of, split
from ringvotes.spaces import Space
from ringvotes.strengths import misleading
from ringvotes.trees import Growing
from ringvotes.ways import shortest_ways
from ringvotes.worlds import check_readings


def certify_told(net, pipe, faults):
    """The claim "tells" for a pipe and faults, or the claim "misleads", with its certificate."""
    worlds = misleading(net, pipe, faults)
    if worlds is not None:
        return (("misleads", str(net), pipe, faults), worlds)
    ways = shortest_ways(net, pipe)
    # Pipes that are not shut lead from the places that are reached to no others: these may be at any height.
    far = sum(faults) + 1
    heights = tuple([ways[place][0] if place in ways else far for place in net.places])
    return (("tells", str(net), pipe, faults), heights)


def certify_rule(net, pipe, rule, faults):
    """The claim "right" for a rule, a pipe and faults, or the claim "fools", with its certificate."""
    world = fooled(net, pipe, rule, faults)
    if world is not None:
        return (("fools", str(net), pipe, str(rule), faults), world)
    rings = rings_of(net)
    triples = []
    for wrong, silent in greatest_pairs(net, faults):
        growing = Growing(net, Space(net, rings, wrong, silent), pipe, rule, wrong, silent)
        triples.append((wrong, silent, growing.tree()))
    return (("right", str(net), pipe, str(rule), faults), tuple(triples))


def certify_readings(net, readings):
    """The claim "clash" for readings with its certificate, None if some flow fits them."""
    check_net(net)
    check_readings(net, readings)
    if fitting_readings(net, readings) is not None:
        return None
    return (("clash", str(net), readings), _clash(net, readings))


def certify_nets(net, other):
    """The claim "same" for two nets, or the claim "differ", with its certificate."""
    parting = parting_flow(net, other)
    if parting is None:
        return (("same", str(net), str(other)), (_partners(net, other), _partners(other, net)))
    which, flow = parting
    one, two = (net, other) if which == 0 else (other, net)
    return (("differ", str(net), str(other)), (which, flow) + _clash(two, readings_in(two, one, flow)))


def certify_cheapest(net, prices):
    """The claim "cheapest" for prices and the pipes that need a meter, with its certificate."""
    names = cheapest(net, prices)
    kept = [part.name for part in split_by_price(net, prices)[0]]
    closing = [part for part in net.pipes if part.name not in kept]
    flows = tuple([ring_closed(net, closing, net.pipe(name)) for name in names])
    return (("cheapest", str(net), prices, names), flows)


def _clash(net, readings):
    """The text of a sum, and heights, that show that no flow fits readings."""
    total, heights = clash_of(net, readings)
    return (str(total), tuple([heights[place] for place in net.places]))


def _partners(net, other):
    """For each pipe that closes a ring its name, this ring, and a flow of the other net with the same readings."""
    closing = split(net, net.pipes)[1]
    found = []
    for part in closing:
        flow = ring_closed(net, closing, part)
        found.append((part.name, flow, fitting_readings(other, readings_in(other, net, flow))))
    return tuple(found)
