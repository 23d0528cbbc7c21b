"""What the package is held against: the same things found in other ways, by patterns and by trying all."""

import random
import re
from itertools import product

from ringvotes.nets import Meter, Net, Pipe

TERM = "(?:(?!1[*])([1-9][0-9]*)[*])?([a-z][a-z0-9]{0,7})"
SUM = re.compile(f"(-?){TERM}((?: [+-] {TERM})*)")
FURTHER = re.compile(f" ([+-]) {TERM}")
ROWS = (
    re.compile("(if) ([^=]+) == ([^=]+) go ([1-7])"),
    re.compile("(vote) ([0-3]): (.+)"),
    re.compile("(tell) (.+)"),
    re.compile("(doubt)"),
)

ALL_FAULTS = [(low, high, silent) for low in range(4) for high in range(low, 4) for silent in range(4)]


def expected_terms(text):
    """The terms that a text means, None if it is no text of a sum; found by a pattern."""
    if text == "0":
        return ()
    found = SUM.fullmatch(text)
    if found is None:
        return None
    parts = [(found[1], found[2], found[3])] + FURTHER.findall(found[4])
    terms = [(name, int(sign.strip("+") + (number or "1"))) for sign, number, name in parts]
    names = [name for name, _ in terms]
    return tuple(terms) if names == sorted(set(names)) else None


def expected_row(text, index, many):
    """The kind of a row, its number and the terms of its sums; None if it is no row; found by patterns."""
    parts = [found.groups() for found in [pattern.fullmatch(text) for pattern in ROWS] if found]
    if not parts:
        return None
    kind, number, texts = parts[0][0], None, parts[0][1:]
    if kind == "if":
        number, texts = int(texts[2]), texts[:2]
        if not index < number < many:
            return None
    if kind == "vote":
        number, texts = int(texts[0]), texts[1].split(", ")
        if len(texts) > 10:
            return None
    sums = [expected_terms(text) for text in texts]
    return None if None in sums else (kind, number, sums)


def expected_value(shown, terms):
    """The value of the sum with these terms for a dict of readings, None if it is silent."""
    value = 0
    for name, number in terms:
        if shown[name] is None:
            return None
        value += number * shown[name]
    return value


def expected_outcome(rows, shown):
    """The outcome of a rule with these rows for a dict of readings."""
    at = 0
    while True:
        kind, number, sums = expected_row(rows[at], at, len(rows))
        values = [expected_value(shown, terms) for terms in sums]
        heard = [value for value in values if value is not None]
        at += 1
        if kind == "if" and len(heard) == 2 and values[0] == values[1]:
            at = number
        if kind == "vote":
            for value in heard:
                if len([other for other in heard if other != value]) <= number:
                    return value
        if kind == "tell":
            return values[0]
        if kind == "doubt":
            return None


def keeps(net, flow):
    """Whether nothing is kept at any place of the net."""
    left = dict.fromkeys(net.places, 0)
    for pipe, amount in zip(net.pipes, flow):
        left[pipe.start] -= amount
        left[pipe.end] += amount
    return not any(left.values())


def unit_flows(net):
    """All flows of integers from -1 to 1."""
    last = {place: index for index, pipe in enumerate(net.pipes) for place in (pipe.start, pipe.end)}
    found = [((), dict.fromkeys(net.places, 0))]
    for index, pipe in enumerate(net.pipes):
        longer = []
        for flow, left in found:
            for amount in (-1, 0, 1):
                now = {**left, pipe.start: left[pipe.start] - amount, pipe.end: left[pipe.end] + amount}
                # What is left behind the last pipe at a place stays there.
                if all(now[place] == 0 for place in (pipe.start, pipe.end) if last[place] == index):
                    longer.append((flow + (amount,), now))
        found = longer
    return [flow for flow, _ in found]


def amount_at(net, flow, name):
    """What a flow has at the pipe with this name."""
    return flow[[pipe.name for pipe in net.pipes].index(name)]


def met(net, flow):
    """The names of the meters at the pipes at which a flow is not 0."""
    return [meter.name for meter in net.meters if amount_at(net, flow, meter.at) != 0]


def passes_seals(net, flow):
    """Whether a flow is 0 at every pipe with a sealed meter."""
    return all(amount_at(net, flow, meter.at) == 0 for meter in net.meters if meter.sealed)


def expected_strength(net, name, flows):
    """The strength of a pipe, found by trying all these flows."""
    counts = [len(met(net, flow)) for flow in flows if amount_at(net, flow, name) != 0 and passes_seals(net, flow)]
    return min(counts, default=None)


def true_readings(net, flow):
    """What all meters show if none is wrong or silent."""
    return tuple([amount_at(net, flow, meter.at) for meter in net.meters])


def world_counts(net, world):
    """How many meters are wrong and silent in a world, None if it is no world of the net."""
    flow, readings = world
    true = true_readings(net, flow)
    if not keeps(net, flow) or len(flow) != len(net.pipes) or len(readings) != len(net.meters):
        return None
    if any(meter.sealed and seen != right for meter, seen, right in zip(net.meters, readings, true)):
        return None
    wrong = [seen for seen, right in zip(readings, true) if seen is not None and seen != right]
    return (len(wrong), readings.count(None))


def ring_with(many, meters):
    """A net of so many pipes p0, p1, .. in a ring, with so many meters at each of them, in turn."""
    pipes = tuple([Pipe(f"p{index}", f"a{index}", f"a{(index + 1) % many}") for index in range(many)])
    return Net(pipes, tuple([
        Meter(f"m{index}n{more}", f"p{index}") for index in range(many) for more in range(meters[index])
    ]))


def random_net(dice, pipes, places, meters, seals):
    """A net of so many pipes, places and meters at most; of the meters one in `seals` is sealed."""
    names = dice.sample([f"{letter}{digit}" for letter in "pqrm" for digit in range(10)], pipes)
    made = [Pipe(name, *dice.sample([f"a{index}" for index in range(places)], 2)) for name in names]
    others = dice.sample([f"m{index}" for index in range(30)], meters)
    return Net(tuple(made), tuple([
        Meter(name, dice.choice(names), sealed=dice.randrange(seals) == 0) for name in others
    ]))


def random_nets(seed, many, most_pipes=6, most_meters=6, seals=6):
    """So many small nets, the same for each seed."""
    dice = random.Random(seed)
    return [
        random_net(dice, dice.randint(1, most_pipes), dice.randint(2, 4), dice.randint(0, most_meters), seals)
        for _ in range(many)
    ]


def random_flow(dice, net, most):
    """A flow of a net, made of walks that end where they begin, with amounts up to `most`."""
    total = [0] * len(net.pipes)
    for _ in range(6):
        factor = dice.randint(-most, most)
        for index, sign in closed_walk(dice, net):
            total[index] += sign * factor
    return tuple(total)


def closed_walk(dice, net):
    """The pipes on a walk that ends where it begins, each with 1 or -1; none if it has become too long."""
    first = place = dice.choice(net.places)
    walk = []
    while len(walk) < 50:
        index = dice.choice([at for at, pipe in enumerate(net.pipes) if place in (pipe.start, pipe.end)])
        pipe = net.pipes[index]
        walk.append((index, 1 if place == pipe.start else -1))
        place = pipe.end if place == pipe.start else pipe.start
        if place == first:
            return walk
    return []


def grid():
    """Nine places in a square, joined by twelve pipes with a meter each: every pipe is on rings of four."""
    pipes = [(f"h{row}{col}", f"a{row}{col}", f"a{row}{col + 1}") for row, col in product(range(3), range(2))]
    pipes += [(f"v{row}{col}", f"a{row}{col}", f"a{row + 1}{col}") for row, col in product(range(2), range(3))]
    return Net(tuple([Pipe(*parts) for parts in pipes]), tuple([Meter(f"m{parts[0]}", parts[0]) for parts in pipes]))
