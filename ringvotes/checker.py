"""The checker: which certificates show that claims are true, whoever made them."""

from ringvotes.basics import is_number
from ringvotes.checks import are_faults, are_prices
from ringvotes.errors import InvalidText
from ringvotes.fits import readings_in
from ringvotes.following import Following, are_numbers, is_marked
from ringvotes.heights import amounts_of
from ringvotes.nets import Net
from ringvotes.pairs import greatest_pairs
from ringvotes.rings import carries_ring
from ringvotes.rules import Rule, outcome
from ringvotes.sums import Sum
from ringvotes.ways import meters_at, sealed_at
from ringvotes.worlds import (
    are_readings,
    by_name,
    is_flow,
    is_world,
    readings_of,
    silent_meters,
    value_in,
    wrong_meters,
)


def accepts(claim, certificate):
    """Whether these values, whatever they are, are a claim for the checker and a certificate for it."""
    if not is_marked(claim) or claim[0] not in CHECKS or len(claim) != LENGTHS[claim[0]]:
        return False
    net = _net_of(claim[1])
    if net is None:
        return False
    check = CHECKS[claim[0]]
    return check(net, claim, certificate)


def _tells(net, claim, certificate):
    """Whether heights show that a pipe can be told."""
    pipe, faults = claim[2:]
    if not _has_pipe(net, pipe) or not are_faults(faults) or not are_numbers(certificate, len(net.places)):
        return False
    heights = dict(zip(net.places, certificate))
    for part in net.pipes:
        if not sealed_at(net, part.name):
            fall = heights[part.start] - heights[part.end]
            many = len(meters_at(net, part.name))
            if part.name == pipe and fall + many <= sum(faults):
                return False
            if part.name != pipe and abs(fall) > many:
                return False
    return True


def _misleads(net, claim, certificate):
    """Whether two worlds show that a pipe cannot be told."""
    pipe, faults = claim[2:]
    if not _has_pipe(net, pipe) or not are_faults(faults) or not _is_tuple(certificate, 2):
        return False
    one, two = certificate
    if not is_world(net, one) or not is_world(net, two):
        return False
    return (
        one[1] == two[1]
        and _amounts(net, one[0])[pipe] != _amounts(net, two[0])[pipe]
        and len(wrong_meters(net, one)) <= faults[0]
        and len(wrong_meters(net, two)) <= faults[1]
        and len(silent_meters(net, one)) <= faults[2]
    )


def _fools(net, claim, certificate):
    """Whether a world fools a rule."""
    pipe, text, faults = claim[2:]
    rule = _rule_of(net, text)
    if not _has_pipe(net, pipe) or rule is None or not are_faults(faults) or not is_world(net, certificate):
        return False
    many = len(wrong_meters(net, certificate))
    if many > faults[1] or len(silent_meters(net, certificate)) > faults[2]:
        return False
    told = outcome(net, rule, certificate[1])
    if told is None:
        return many <= faults[0]
    return told != _amounts(net, certificate[0])[pipe]


def _right(net, claim, certificate):
    """Whether trees show that a rule is right."""
    pipe, text, faults = claim[2:]
    rule = _rule_of(net, text)
    if not _has_pipe(net, pipe) or rule is None or not are_faults(faults):
        return False
    pairs = {pair: True for pair in greatest_pairs(net, faults)}
    if not _is_tuple(certificate, len(pairs)):
        return False
    for triple in certificate:
        if not _is_tuple(triple, 3) or not _are_strings(triple[0]) or not _are_strings(triple[1]):
            return False
        wrong, silent, tree = triple
        if not pairs.get((wrong, silent), False):
            return False
        pairs[(wrong, silent)] = False
        if not Following(net, pipe, rule, wrong, silent, len(wrong) <= faults[0]).holds(tree):
            return False
    return True


def _clash(net, claim, certificate):
    """Whether a sum and heights show that no flow fits readings."""
    return are_readings(net, claim[2]) and _is_tuple(certificate, 2) and _clashes(net, claim[2], certificate)


def _same(net, claim, certificate):
    """Whether flows and their partners show that two nets have the same readings."""
    other = _net_of(claim[2])
    if other is None or not _have_same_meters(net, other) or not _is_tuple(certificate, 2):
        return False
    return _are_partners(net, other, certificate[0]) and _are_partners(other, net, certificate[1])


def _differ(net, claim, certificate):
    """Whether a flow of one of two nets has readings that the other one has not."""
    other = _net_of(claim[2])
    if other is None or not _have_same_meters(net, other) or not _is_tuple(certificate, 4):
        return False
    which, flow = certificate[:2]
    if not is_number(which) or not 0 <= which <= 1:
        return False
    one, two = (net, other) if which == 0 else (other, net)
    return is_flow(one, flow) and _clashes(two, readings_in(two, one, flow), certificate[2:])


def _cheapest(net, claim, certificate):
    """Whether flows show that no other pipes without meters need one at a lower price."""
    prices, names = claim[2:]
    if not are_prices(net, prices) or not _are_strings(names):
        return False
    bare = [part.name for part in net.pipes if not meters_at(net, part.name)]
    if names != tuple(sorted([name for name in bare if name in names])):
        return False
    if carries_ring(net, [part for part in net.pipes if part.name in bare and part.name not in names]):
        return False
    if not _is_tuple(certificate, len(names)):
        return False
    costs = dict(zip([part.name for part in net.pipes], prices))
    # Pipes with meters, and the others that get one, are shut for the flow of each of these pipes.
    shut = [part.name for part in net.pipes if part.name not in bare or part.name in names]
    for name, flow in zip(names, certificate):
        if not is_flow(net, flow) or _amounts(net, flow)[name] == 0:
            return False
        used = [other for other, amount in _amounts(net, flow).items() if amount != 0 and other != name]
        if any([other in shut or costs[other] < costs[name] for other in used]):
            return False
    return True


LENGTHS = {"tells": 4, "misleads": 4, "fools": 5, "right": 5, "clash": 3, "same": 3, "differ": 3, "cheapest": 4}

CHECKS = {
    "tells": _tells,
    "misleads": _misleads,
    "fools": _fools,
    "right": _right,
    "clash": _clash,
    "same": _same,
    "differ": _differ,
    "cheapest": _cheapest,
}


def _net_of(text):
    """The net with this text, None if it is no text of one, whatever it is."""
    try:
        return Net.read(text)
    except InvalidText:
        return None


def _rule_of(net, text):
    """The rule with this text, None if it is no text of one, whatever it is, or if it has other meters."""
    try:
        rule = Rule.read(text)
    except InvalidText:
        return None
    return rule if all([name in net for name in rule.meters]) else None


def _sum_of(net, text):
    """The sum with this text, None if it is no text of one, whatever it is, or if it has other meters."""
    try:
        total = Sum.read(text)
    except InvalidText:
        return None
    return total if all([name in net for name, _ in total.terms]) else None


def _has_pipe(net, name):
    """Whether a value, whatever it is, is the name of a pipe of the net."""
    return isinstance(name, str) and name in [part.name for part in net.pipes]


def _is_tuple(value, many):
    """Whether a value, whatever it is, is a tuple of this length."""
    return isinstance(value, tuple) and len(value) == many


def _are_strings(value):
    """Whether a value, whatever it is, is a tuple of strings."""
    return isinstance(value, tuple) and all([isinstance(part, str) for part in value])


def _have_same_meters(net, other):
    """Whether the meters of two nets have the same names."""
    return sorted([part.name for part in net.meters]) == sorted([part.name for part in other.meters])


def _amounts(net, flow):
    """A flow as a dict by the names of the pipes."""
    return dict(zip([part.name for part in net.pipes], flow))


def _clashes(net, readings, certificate):
    """Whether a pair (sum, heights) shows that no flow fits readings."""
    text, heights = certificate
    total = _sum_of(net, text)
    if total is None or not are_numbers(heights, len(net.places)):
        return False
    levels = dict(zip(net.places, heights))
    if amounts_of(net, total) != tuple([levels[part.end] - levels[part.start] for part in net.pipes]):
        return False
    value = value_in(by_name(net, readings), total)
    return value is not None and value != 0


def _are_partners(net, other, triples):
    """Whether these are flows of all rings of a net, each with a flow of the other one that has the same readings."""
    if not isinstance(triples, tuple):
        return False
    names = []
    for triple in triples:
        if not _is_tuple(triple, 3) or not _has_pipe(net, triple[0]) or triple[0] in names:
            return False
        names.append(triple[0])
    for name, flow, partner in triples:
        if not is_flow(net, flow) or not is_flow(other, partner):
            return False
        if [_amounts(net, flow)[one] for one in names] != [1 if one == name else 0 for one in names]:
            return False
        if readings_in(other, net, flow) != readings_of(other, partner):
            return False
    return not carries_ring(net, [part for part in net.pipes if part.name not in names])
