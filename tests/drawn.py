"""Drawn rules, worlds and readings, the same ones for each seed."""

from ringvotes.nets import Meter, Net, Pipe
from ringvotes.rules import Rule
from ringvotes.sums import Sum
from ringvotes.votes import votes
from tests.oracles import random_flow, true_readings


def drawn_sum(dice, net, name):
    """The text of a sum: often a vote for the pipe, sometimes a few meters or 0."""
    known = votes(net, name)
    if known and dice.randrange(3):
        return str(dice.choice(known))
    names = [meter.name for meter in net.meters]
    chosen = dice.sample(names, min(len(names), dice.choice((0, 1, 1, 2))))
    return str(Sum(tuple([(one, dice.choice((-2, -1, 1, 1, 1))) for one in chosen])))


def drawn_rule(dice, net, name, most_rows=5, most_sums=4):
    """A rule for a pipe, right or not."""
    many = dice.randint(1, most_rows)
    rows = []
    for index in range(many - 1):
        kind = dice.choice(("if", "if", "vote", "vote", "tell"))
        if kind == "if":
            jump = dice.randint(index + 1, many - 1)
            rows.append(f"if {drawn_sum(dice, net, name)} == {drawn_sum(dice, net, name)} go {jump}")
        elif kind == "vote":
            sums = [drawn_sum(dice, net, name) for _ in range(dice.randint(1, most_sums))]
            rows.append(f"vote {dice.choice((0, 0, 1, 1, 2, 3))}: {', '.join(sums)}")
        else:
            rows.append(f"tell {drawn_sum(dice, net, name)}")
    return Rule(tuple(rows) + (dice.choice((f"tell {drawn_sum(dice, net, name)}", "doubt", "doubt")),))


def voting_rows(dice, net, name, faults):
    """A rule with a `vote` row of some of the votes for a pipe, with H near to healed, and a further row or none."""
    known = [str(total) for total in votes(net, name)][:10]
    chosen = dice.sample(known, max(0, len(known) - dice.choice((0, 0, 1)))) or ["0"]
    most = min(3, max(0, faults[0] + dice.choice((-1, 0, 0, 0, 1))))
    last = dice.choice(("doubt", "doubt", f"tell {chosen[0]}"))
    return Rule((f"vote {most}: {', '.join(chosen)}", last))


def drawn_faults(dice, most=2):
    """Faults with small bounds."""
    noticed = dice.randint(0, most)
    return (dice.randint(0, noticed), noticed, dice.randint(0, most))


def ring_and_more(dice, most_meters):
    """Two places with some ways between them, and a pipe on no ring."""
    ways = dice.randint(2, 3)
    pipes = [Pipe(f"p{index}", *dice.sample("xy", 2)) for index in range(ways)] + [Pipe("far", "x", "z")]
    meters = [
        Meter(f"m{index}", dice.choice([pipe.name for pipe in pipes]), sealed=dice.randrange(9) == 0)
        for index in range(dice.randint(1, most_meters))
    ]
    dice.shuffle(pipes)
    return Net(tuple(pipes), tuple(meters))


def drawn_readings(dice, net, most=3):
    """Readings of some flow in which a few meters show other integers or nothing."""
    readings = list(true_readings(net, random_flow(dice, net, most)))
    for index, meter in enumerate(net.meters):
        spoil = dice.randrange(6)
        if spoil == 0:
            readings[index] += dice.choice((-1, 1, 2, 10 ** 35))
        if spoil == 1 and not meter.sealed:
            readings[index] = None
    return tuple(readings)
