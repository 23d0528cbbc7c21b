"""Claims and certificates judged by the words of [21] to [23], one by one, and ways to bend values."""

from tests.linear import less, pipe_vector, run, vector_of
from tests.oracles import amount_at, expected_outcome, expected_row, expected_terms, keeps, met
from ringvotes.errors import InvalidText
from ringvotes.nets import Net


class Unfit(Exception):
    """Something is not as the words ask for."""


def need(holds):
    if holds is not True:
        raise Unfit()


def fits(claim, certificate):
    """Whether these values are a claim and a certificate for it, by the words."""
    try:
        a_tuple(claim)
        need(len(claim) > 0 and claim[0].__class__ is str and claim[0] in WORDS)
        many, judge = WORDS[claim[0]]
        need(len(claim) == many)
        judge(certificate, *claim[1:])
    except Unfit:
        return False
    return True


def a_tuple(value, many=None):
    need(value.__class__ is tuple and many in (None, len(value)))
    return value


def integers(value, many):
    for number in a_tuple(value, many):
        an_integer(number)
    return value


def an_integer(value):
    need(value.__class__ is int)
    return value


def a_text(value):
    need(value.__class__ is str)
    return value


def a_net(text):
    try:
        return Net.read(a_text(text))
    except InvalidText:
        raise Unfit() from None


def a_pipe(net, name):
    need(a_text(name) in [pipe.name for pipe in net.pipes])
    return name


def faults(value):
    healed, noticed, silent = integers(value, 3)
    need(0 <= healed <= noticed <= 3 and 0 <= silent <= 3)
    return value


def rows_of(net, text):
    """The rows of a rule that uses meters of the net only."""
    rows = a_text(text).split("\n")
    need(1 <= len(rows) <= 8)
    for index, row in enumerate(rows):
        found = expected_row(row, index, len(rows))
        need(found is not None)
        need(all(name in net for terms in found[2] for name, _ in terms))
    need(expected_row(rows[-1], len(rows) - 1, len(rows))[0] in ("tell", "doubt"))
    return rows


def a_flow(net, value):
    integers(value, len(net.pipes))
    need(keeps(net, value))
    return value


def readings(net, value):
    for meter, seen in zip(net.meters, a_tuple(value, len(net.meters))):
        need(seen.__class__ is int or seen is None and not meter.sealed)
    return value


def a_world(net, value):
    flow, seen = a_tuple(value, 2)
    a_flow(net, flow)
    readings(net, seen)
    for meter, shows in zip(net.meters, seen):
        need(not meter.sealed or shows == amount_at(net, flow, meter.at))
    return value


def wrong_in(net, world):
    return len([
        1 for meter, seen in zip(net.meters, world[1]) if seen is not None and seen != amount_at(net, world[0], meter.at)
    ])


def rises(net, value):
    """For each pipe the height of its end less that of its start."""
    heights = dict(zip(net.places, integers(value, len(net.places))))
    return [heights[pipe.end] - heights[pipe.start] for pipe in net.pipes]


def meters_of(net, name):
    return [meter for meter in net.meters if meter.at == name]


def no_ring(net, names):
    """No flow other than 0 is 0 at all pipes but these: the ones that lead to a place of their own go, one by one."""
    pipes = [pipe for pipe in net.pipes if pipe.name in names]
    while pipes:
        ends = [end for pipe in pipes for end in (pipe.start, pipe.end)]
        left = [pipe for pipe in pipes if ends.count(pipe.start) > 1 and ends.count(pipe.end) > 1]
        need(len(left) < len(pipes))
        pipes = left


def tells(certificate, text, name, bounds):
    net = a_net(text)
    a_pipe(net, name)
    faults(bounds)
    for pipe, rise in zip(net.pipes, rises(net, certificate)):
        meters = meters_of(net, pipe.name)
        if any(meter.sealed for meter in meters):
            continue
        if pipe.name == name:
            need(-rise + len(meters) > sum(bounds))
        else:
            need(-len(meters) <= rise <= len(meters))


def misleads(certificate, text, name, bounds):
    net = a_net(text)
    a_pipe(net, name)
    healed, noticed, silent = faults(bounds)
    one, two = [a_world(net, world) for world in a_tuple(certificate, 2)]
    need(one[1] == two[1] and amount_at(net, one[0], name) != amount_at(net, two[0], name))
    need(wrong_in(net, one) <= healed and wrong_in(net, two) <= noticed and one[1].count(None) <= silent)


def fools(certificate, text, name, rule, bounds):
    net = a_net(text)
    a_pipe(net, name)
    rows = rows_of(net, rule)
    healed, noticed, silent = faults(bounds)
    flow, seen = a_world(net, certificate)
    many = wrong_in(net, certificate)
    need(many <= noticed and seen.count(None) <= silent)
    told = expected_outcome(rows, dict(zip([meter.name for meter in net.meters], seen)))
    need(told != amount_at(net, flow, name) and (many <= healed or told is not None))


def clash(certificate, text, seen):
    net = a_net(text)
    readings(net, seen)
    does_clash(net, seen, *a_tuple(certificate, 2))


def does_clash(net, seen, text, heights):
    terms = expected_terms(a_text(text))
    need(terms is not None)
    need(all(name in net for name, _ in terms))
    for pipe, rise in zip(net.pipes, rises(net, heights)):
        need(sum(number for name, number in terms if net.meter(name).at == pipe.name) == rise)
    shown = dict(zip([meter.name for meter in net.meters], seen))
    need(all(shown[name] is not None for name, _ in terms))
    need(sum(number * shown[name] for name, number in terms) != 0)


def seen_with(net, flow):
    return {meter.name: amount_at(net, flow, meter.at) for meter in net.meters}


def two_nets(text, other):
    one, two = a_net(text), a_net(other)
    need({meter.name for meter in one.meters} == {meter.name for meter in two.meters})
    return one, two


def same(certificate, text, other):
    one, two = two_nets(text, other)
    for triples, net, another in zip(a_tuple(certificate, 2), (one, two), (two, one)):
        names = [a_pipe(net, a_tuple(triple, 3)[0]) for triple in a_tuple(triples)]
        need(len(set(names)) == len(names))
        for name, flow, partner in triples:
            a_flow(net, flow)
            a_flow(another, partner)
            need(all(amount_at(net, flow, each) == (each == name) for each in names))
            need(seen_with(net, flow) == seen_with(another, partner))
        no_ring(net, [pipe.name for pipe in net.pipes if pipe.name not in names])


def differ(certificate, text, other):
    nets = two_nets(text, other)
    which, flow, total, heights = a_tuple(certificate, 4)
    need(an_integer(which) in (0, 1))
    a_flow(nets[which], flow)
    seen = seen_with(nets[which], flow)
    net = nets[1 - which]
    does_clash(net, [seen[meter.name] for meter in net.meters], total, heights)


def cheapest(certificate, text, prices, names):
    net = a_net(text)
    integers(prices, len(net.pipes))
    need(all(price >= 0 for price in prices))
    for name in a_tuple(names):
        need(not meters_of(net, a_pipe(net, name)))
    need(all(one < two for one, two in zip(names, names[1:])))
    no_ring(net, [pipe.name for pipe in net.pipes if not meters_of(net, pipe.name) and pipe.name not in names])
    cost = {pipe.name: price for pipe, price in zip(net.pipes, prices)}
    for name, flow in zip(names, a_tuple(certificate, len(names))):
        a_flow(net, flow)
        need(amount_at(net, flow, name) != 0 and not met(net, flow))
        used = [pipe.name for pipe, amount in zip(net.pipes, flow) if amount != 0]
        need(not [other for other in names if other != name and other in used])
        need(all(cost[other] >= cost[name] for other in used))


def right(certificate, text, name, rule, bounds):
    net = a_net(text)
    a_pipe(net, name)
    rows = rows_of(net, rule)
    healed, noticed, silent = faults(bounds)
    free = [meter.name for meter in net.meters if not meter.sealed]
    seen = []
    for wrong, hushed, tree in [a_tuple(triple, 3) for triple in a_tuple(certificate)]:
        for names in (wrong, hushed):
            need(all(a_text(one) in free for one in a_tuple(names)))
            need(all(one < two for one, two in zip(names, names[1:])))
        left = len(free) - len(hushed)
        need(not set(wrong) & set(hushed) and len(hushed) <= silent)
        need(len(wrong) in (min(healed, left), min(noticed, left)))
        need((wrong, hushed) not in seen)
        seen.append((wrong, hushed))
        a_tree(Told(net, rows, name, wrong, hushed, len(wrong) <= healed), tree, (), [], [])
    need(len(seen) == many_pairs(len(free), healed, noticed, silent))


def many_pairs(free, healed, noticed, silent):
    """How many pairs of sets of wrong and silent meters there are."""
    many = 0
    for hushed in range(min(silent, free) + 1):
        left = free - hushed
        many += choices(free, hushed) * sum(choices(left, wrong) for wrong in {min(healed, left), min(noticed, left)})
    return many


def choices(many, chosen):
    return 1 if chosen == 0 else choices(many - 1, chosen - 1) * many // chosen


class Told:
    """What a tree is about."""

    def __init__(self, net, rows, name, wrong, hushed, strict):
        self.net, self.rows, self.name, self.wrong, self.hushed = net, rows, name, wrong, hushed
        self.strict = strict

    def form(self, terms):
        return vector_of(self.net, self.wrong, terms)

    def combination(self, value, form, forms):
        times, factors, heights = a_tuple(value, 3)
        need(an_integer(times) != 0)
        integers(factors, len(forms))
        steps = rises(self.net, heights) + [0] * len(self.wrong)
        for index, number in enumerate(form):
            parts = [factor * other[index] for factor, other in zip(factors, forms)]
            need(times * number == sum(parts) + steps[index])


def a_tree(told, tree, answers, equal, unequal):
    steps, close = a_tuple(tree, 2)
    for step in a_tuple(steps):
        _, kind, *terms = run(told.rows, told.hushed, answers)
        need(kind == "asks")
        form = less(told.form(terms[0]), told.form(terms[1]))
        need(len(a_tuple(step)) in (2, 3))
        if a_text(step[0]) == "equal":
            told.combination(a_tuple(step, 2)[1], form, equal)
        else:
            need(step[0] == "unequal" and 0 <= an_integer(a_tuple(step, 3)[1]) < len(unequal))
            told.combination(step[2], unequal[step[1]], equal + [form])
        answers += (step[0] == "equal",)
    _, kind, *terms = run(told.rows, told.hushed, answers)
    need(len(a_tuple(close)) in (1, 2, 3))
    if a_text(close[0]) == "both":
        a_tuple(close, 3)
        need(kind == "asks")
        form = less(told.form(terms[0]), told.form(terms[1]))
        a_tree(told, close[1], answers + (True,), equal + [form], unequal)
        a_tree(told, close[2], answers + (False,), equal, unequal + [form])
    elif close[0] == "tells":
        a_tuple(close, 2)
        need(kind == "tells" and terms[0] is not None)
        told.combination(close[1], less(told.form(terms[0]), pipe_vector(told.net, told.wrong, told.name)), equal)
    else:
        need(close == ("doubts",) and kind == "tells" and terms[0] is None and not told.strict)


WORDS = {
    "tells": (4, tells), "misleads": (4, misleads), "fools": (5, fools), "right": (5, right), "clash": (3, clash),
    "same": (3, same), "differ": (3, differ), "cheapest": (4, cheapest),
}


def bends(value):
    """Values that differ from one in a single place."""
    if value.__class__ is int:
        yield from (value + 1, value - 1, -value, 2 * value + 1, str(value), None, (value,), [value])
        if value in (0, 1):
            yield bool(value)
    elif value.__class__ is str:
        yield from (value + " ", " " + value, value[1:], value[:-1], value + "\n", value.upper(), "", None, (value,), 0)
        yield from (value.encode(), [value], value + "1", value.replace("+", "-"), value.replace("m1", "m2"))
        for at in range(0, len(value), 7):
            yield value[:at] + "a" + value[at + 1:]
    elif value is None:
        yield from (0, 1, False, (), "None")
    else:
        yield from (list(value), (), (value,), None, 0, value + value[-1:], value + (0,), value + (None,))
        for at, part in enumerate(value):
            yield value[:at] + value[at + 1:]
            yield value[:at] + (part,) + value[at:]
            yield from (value[:at] + (bent,) + value[at + 1:] for bent in bends(part))
            for other in range(at):
                yield value[:other] + (part,) + value[other + 1:at] + (value[other],) + value[at + 1:]
