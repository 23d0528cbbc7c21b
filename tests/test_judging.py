import random
import unittest
from itertools import product

from ringvotes.judging import fooled, is_right
from ringvotes.nets import Meter, Net, Pipe
from ringvotes.rules import Rule
from ringvotes.strengths import can_tell, strength
from ringvotes.sums import Sum
from ringvotes.votes import votes, voting_rule
from tests.drawn import drawn_faults, drawn_rule, ring_and_more, voting_rows
from tests.linear import least_fooling, pairs_of_sets
from tests.oracles import (
    ALL_FAULTS,
    amount_at,
    expected_outcome,
    grid,
    keeps,
    random_nets,
    ring_with,
    true_readings,
    world_counts,
)
from tests.support import check_by_name

YARD = Net.read(
    "pipe src o a\npipe left a b\npipe right a c\npipe lout b o\npipe rout c o\n"
    "meter m1 src\nmeter m2 left\nmeter m3 right\nmeter m4 lout\nmeter m5 rout"
)
TWO_WAYS = Rule(("if m1 == m2 + m3 go 2", "tell m4 + m5", "tell m1"))
THREE = Net.read("pipe p x y\npipe q y x\nmeter a p\nmeter b p\nmeter c q")


def fools(net, name, rule, faults, world):
    """Whether a world of the net fools a rule, by the words of [16] and a run of the rule by patterns."""
    counts = world_counts(net, world)
    if counts is None or counts[0] > faults[1] or counts[1] > faults[2]:
        return False
    told = expected_outcome(rule.rows, dict(zip([meter.name for meter in net.meters], world[1])))
    flow = amount_at(net, world[0], name)
    return told != flow if counts[0] <= faults[0] else told not in (flow, None)


def small_worlds(net, wrong, silent, values):
    """All worlds with these sets, with flows of these integers and wrong meters that show any of them."""
    for flow in product(values, repeat=len(net.pipes)):
        if not keeps(net, flow):
            continue
        true = dict(zip([meter.name for meter in net.meters], true_readings(net, flow)))
        for spoilt in product(values, repeat=len(wrong)):
            seen = {**true, **dict(zip(wrong, spoilt)), **{name: None for name in silent}}
            yield flow, tuple([seen[meter.name] for meter in net.meters])


def turned(net):
    """The net with all pipes turned round."""
    return Net(tuple([Pipe(pipe.name, pipe.end, pipe.start) for pipe in net.pipes]), net.meters)


def renamed(net, rule, name):
    """The net with its pipes and meters in another order and all names changed; the rule and the pipe likewise."""
    pipes = [Pipe(f"u{pipe.name}", f"v{pipe.start}", f"v{pipe.end}") for pipe in net.pipes[::-1]]
    names = {meter.name: f"m{9 - index}x" for index, meter in enumerate(net.meters)}
    meters = [Meter(names[meter.name], f"u{meter.at}", sealed=meter.sealed) for meter in net.meters[::-1]]
    rows = []
    for kind, number, totals in rule.steps:
        texts = [str(Sum(tuple([(names[one], times) for one, times in total.terms]))) for total in totals]
        rows.append({
            "if": f"if {' == '.join(texts)} go {number}", "vote": f"vote {number}: {', '.join(texts)}",
            "tell": f"tell {texts[0] if texts else ''}", "doubt": "doubt",
        }[kind])
    return Net(tuple(pipes), tuple(meters)), Rule(tuple(rows)), f"u{name}"


class Judging(unittest.TestCase):
    def check(self, net, name, rule, faults, expected):
        """The rule is judged as expected: None or the least counts in a world that fools it."""
        world = fooled(net, name, rule, faults)
        told = (str(net), name, str(rule), faults, expected, world)
        self.assertIs(is_right(net, name, rule, faults), expected is None, told)
        if expected is None:
            self.assertIsNone(world, told)
        else:
            self.assertTrue(fools(net, name, rule, faults, world), told)
            self.assertEqual(world_counts(net, world), expected, told)


class TestDrawnRules(Judging):
    def test_by_forms(self):
        dice = random.Random(100)
        several = set()
        nets = random_nets(101, 250, most_pipes=5, most_meters=5, seals=8)
        nets = [net for net in nets if net.meters] + [ring_and_more(dice, 5) for _ in range(250)]
        for net in nets:
            name = dice.choice(net.pipes).name
            faults = drawn_faults(dice)
            rule = dice.choice((drawn_rule, drawn_rule, None))
            rule = voting_rows(dice, net, name, faults) if rule is None else rule(dice, net, name)
            expected = least_fooling(net, name, rule.rows, faults)
            self.check(net, name, rule, faults, expected)
            several.add(expected)
        self.assertGreater(len(several), 5)

    def test_faults_up_to_three(self):
        dice = random.Random(102)
        for _ in range(60):
            net = ring_and_more(dice, 6)
            name = dice.choice(net.pipes).name
            faults = drawn_faults(dice, most=3)
            rule = voting_rows(dice, net, name, faults)
            self.check(net, name, rule, faults, least_fooling(net, name, rule.rows, faults))

    def test_by_all_small_worlds(self):
        dice = random.Random(103)
        fooling = 0
        for _ in range(80):
            net = ring_and_more(dice, 3)
            name = dice.choice(net.pipes).name
            faults = drawn_faults(dice, most=1)
            rule = drawn_rule(dice, net, name, most_rows=4, most_sums=3)
            found = [
                world_counts(net, world)
                for wrong, silent in pairs_of_sets(net, faults[1], faults[2])
                for world in small_worlds(net, wrong, silent, range(-2, 3))
                if fools(net, name, rule, faults, world)
            ]
            if found:
                fooling += 1
                self.check(net, name, rule, faults, min(found))
            else:
                # Larger integers might fool it, but do not here.
                self.check(net, name, rule, faults, None)
        self.assertTrue(20 < fooling < 70, fooling)

    def test_fewer_faults_leave_a_rule_right(self):
        dice = random.Random(104)
        right = 0
        for _ in range(60):
            net = ring_and_more(dice, 5)
            name = dice.choice(net.pipes).name
            faults = drawn_faults(dice)
            rule = voting_rows(dice, net, name, faults)
            if is_right(net, name, rule, faults):
                right += 1
                for less in ALL_FAULTS:
                    if all(one <= two for one, two in zip(less, faults)):
                        self.check(net, name, rule, less, None)
        self.assertGreater(right, 10)

    def test_turned_round_and_renamed(self):
        dice = random.Random(105)
        for _ in range(60):
            net = ring_and_more(dice, 4)
            name = dice.choice(net.pipes).name
            faults = drawn_faults(dice)
            rule = dice.choice((drawn_rule(dice, net, name), voting_rows(dice, net, name, faults)))
            expected = least_fooling(net, name, rule.rows, faults)
            self.check(turned(net), name, rule, faults, expected)
            other, same, pipe = renamed(net, rule, name)
            self.check(other, pipe, same, faults, expected)


class TestVotes(Judging):
    def nets(self):
        """Nets with a pipe."""
        heavy = Net((Pipe("p", "x", "y"), Pipe("q", "y", "x")), tuple([Meter(f"m{at}", "p") for at in range(5)]))
        return [
            (YARD, "src"), (YARD, "left"), (THREE, "p"), (THREE, "q"), (ring_with(4, (1, 1, 2, 1)), "p2"), (heavy, "q"),
            (grid(), "h00"), (YARD + Meter("m6", "src"), "src"), (ring_with(3, (1, 0, 2)), "p1"),
        ]

    def test_as_many_votes_as_the_strength_says(self):
        # A rule of all votes is right for all faults for which any way of telling is.
        for net, name in self.nets():
            known = votes(net, name)
            for faults in ALL_FAULTS:
                if sum(faults) > 4 or len(net.meters) > 8 and sum(faults) > 3:
                    continue
                rule = Rule.voting(faults[0], *known)
                self.assertIs(is_right(net, name, rule, faults), can_tell(net, name, faults), (str(net), name, faults))
                world = fooled(net, name, rule, faults)
                self.assertTrue(world is None or fools(net, name, rule, faults, world))

    def test_one_vote_less(self):
        for net, name in self.nets():
            many = strength(net, name)
            for faults in ALL_FAULTS:
                if sum(faults) + 1 == many and many > 1:
                    self.assertTrue(is_right(net, name, Rule.voting(faults[0], *votes(net, name)), faults))
                    fewer = Rule.voting(faults[0], *votes(net, name)[1:])
                    self.assertFalse(is_right(net, name, fewer, faults), (str(net), name, faults))
                    self.assertTrue(fools(net, name, fewer, faults, fooled(net, name, fewer, faults)))

    def test_against_more_or_less_than_healed(self):
        known = votes(YARD, "src")
        for against, faults, right in (
            (1, (1, 1, 0), True), (0, (1, 1, 0), False), (2, (1, 1, 0), False),
            (0, (0, 2, 0), True), (1, (0, 2, 0), False), (1, (0, 1, 0), True), (2, (0, 1, 0), False),
            (0, (0, 1, 1), True), (1, (0, 1, 1), False), (3, (0, 0, 0), True), (3, (0, 0, 2), True),
            (0, (0, 0, 3), False), (0, (0, 3, 0), False), (2, (0, 1, 1), False),
        ):
            self.assertIs(is_right(YARD, "src", Rule.voting(against, *known), faults), right, (against, faults))

    def test_voting_rules_are_right(self):
        for net, name in self.nets():
            for faults in ALL_FAULTS[::5]:
                if len(net.meters) < 9 or sum(faults[1:]) < 3:
                    rule = voting_rule(net, name, faults)
                    self.assertTrue(rule is None or is_right(net, name, rule, faults))

    def test_twelve_meters(self):
        net = ring_with(12, (1,) * 12)
        for faults in ((3, 3, 0), (2, 2, 1), (1, 2, 1), (0, 0, 3), (0, 3, 0)):
            rule = voting_rule(net, "p3", faults)
            self.check(net, "p3", rule, faults, None)
            less = Rule.voting(faults[0], *[Sum.read(text) for text in rule.rows[0].split(": ")[1].split(", ")[1:]])
            world = fooled(net, "p3", less, faults)
            self.assertTrue(fools(net, "p3", less, faults, world))


class TestKnownRules(Judging):
    def test_tell_of_one_meter(self):
        self.check(YARD, "src", Rule.read("tell m1"), (0, 0, 0), None)
        self.check(YARD, "src", Rule.read("tell m1"), (0, 1, 0), (1, 0))
        self.check(YARD, "src", Rule.read("tell m1"), (1, 1, 0), (1, 0))
        self.check(YARD, "src", Rule.read("tell m1"), (0, 0, 1), (0, 1))
        self.check(YARD, "src", Rule.read("tell m2"), (0, 0, 0), (0, 0))
        self.check(YARD, "src", Rule.read("tell m2 + m3"), (0, 0, 0), None)
        self.check(YARD, "src", Rule.read("tell 2*m1"), (0, 0, 0), (0, 0))
        self.check(YARD, "src", Rule.read("tell m1 - m2 + m4"), (0, 0, 0), None)
        sealed = YARD + Meter("m1", "src", sealed=True)
        self.check(sealed, "src", Rule.read("tell m1"), (3, 3, 3), None)

    def test_doubt_alone(self):
        for faults in ALL_FAULTS:
            self.check(THREE, "p", Rule.read("doubt"), faults, (0, 0))
        # Even where nothing flows, the flow has to be told.
        self.check(Net.read("pipe p a b"), "p", Rule.read("doubt"), (0, 0, 0), (0, 0))

    def test_the_yard(self):
        for faults in ALL_FAULTS:
            if sum(faults[1:]) <= 4:
                self.check(YARD, "src", TWO_WAYS, faults, least_fooling(YARD, "src", TWO_WAYS.rows, faults))
        self.check(YARD, "src", TWO_WAYS, (1, 1, 0), None)
        self.check(YARD, "src", TWO_WAYS, (0, 2, 0), (2, 0))
        self.check(YARD, "src", TWO_WAYS, (1, 1, 1), (1, 1))
        self.check(YARD, "src", TWO_WAYS, (1, 2, 0), (2, 0))

    def test_jumps_over_other_rows(self):
        rule = Rule.read("if a == b go 3\nif a == c go 3\ntell 2*a\ntell a")
        self.check(THREE, "p", rule, (0, 0, 0), None)
        self.check(THREE, "p", rule, (1, 1, 0), (1, 0))
        rule = Rule.read("if a == b go 3\nif a == c go 3\ntell b\ntell a")
        self.check(THREE, "p", rule, (1, 1, 0), None)
        self.check(THREE, "p", rule, (0, 2, 0), (2, 0))
        rule = Rule.read("if a == b go 3\nif a == c go 3\ndoubt\ntell a")
        self.check(THREE, "p", rule, (1, 1, 0), (1, 0))
        self.check(THREE, "p", rule, (0, 1, 0), None)
        self.check(THREE, "p", rule, (0, 1, 1), (0, 1))

    def test_rows_that_no_run_comes_to(self):
        self.check(THREE, "p", Rule.read("tell a\ntell 2*a\ndoubt"), (0, 0, 0), None)
        self.check(THREE, "p", Rule.read("if a == a go 2\ntell 7*a\ntell a"), (0, 3, 0), (1, 0))
        self.check(THREE, "p", Rule.read("if a == a go 2\ntell 7*a\ntell c"), (0, 0, 0), None)
        self.check(THREE, "p", Rule.read("if a == a go 2\ntell 7*a\ntell c"), (0, 0, 1), (0, 1))
        self.check(THREE, "p", Rule.read("if 0 == 0 go 2\ndoubt\nvote 0: c, b\ndoubt"), (0, 0, 1), None)
        # a == b and a not c and b == c cannot be.
        rule = Rule.read("if a == b go 2\ntell a\nif a == c go 4\nif b == c go 5\ntell a\ntell 5*b")
        self.check(THREE, "p", rule, (0, 0, 0), None)

    def test_silent_sums(self):
        self.check(THREE, "p", Rule.read("vote 0: a, b\ntell c"), (0, 0, 1), None)
        self.check(THREE, "p", Rule.read("vote 0: a, b\ntell c"), (0, 0, 2), None)
        self.check(THREE, "p", Rule.read("vote 0: a, b\ntell c"), (0, 0, 3), (0, 3))
        self.check(THREE, "p", Rule.read("if a == b go 2\ntell c\ntell a"), (0, 0, 1), None)
        self.check(THREE, "p", Rule.read("if a == b go 2\ntell c\ntell a"), (0, 0, 2), (0, 2))
        self.check(THREE, "p", Rule.read("vote 0: a + b - c\ndoubt"), (0, 0, 0), None)
        self.check(THREE, "p", Rule.read("vote 0: a + b - c\ndoubt"), (0, 0, 1), (0, 1))

    def test_more_than_healed_are_wrong(self):
        # Doubt fools nobody then, other integers do.
        self.check(THREE, "p", Rule.read("vote 0: a, b\ndoubt"), (0, 1, 0), None)
        self.check(THREE, "p", Rule.read("vote 0: a, b\ndoubt"), (0, 2, 0), (2, 0))
        self.check(THREE, "p", Rule.read("vote 0: a, b\ndoubt"), (1, 1, 0), (1, 0))
        self.check(THREE, "p", Rule.read("vote 0: a, b, c\ndoubt"), (0, 2, 0), None)
        self.check(THREE, "p", Rule.read("vote 0: a, b, c\ndoubt"), (0, 3, 0), (3, 0))
        self.check(THREE, "p", Rule.read("vote 0: a, b, c\ndoubt"), (0, 1, 1), None)
        self.check(THREE, "p", Rule.read("vote 0: a, b, c\ndoubt"), (0, 1, 2), (1, 2))
        self.check(THREE, "p", Rule.read("vote 0: a, b, c\ndoubt"), (0, 0, 3), (0, 3))

    def test_more_faults_than_meters(self):
        net = Net.read("pipe p x y\npipe q y x\nmeter a p\nmeter s q sealed")
        for faults in ALL_FAULTS:
            self.check(net, "p", Rule.read("tell s"), faults, None)
            self.check(net, "p", Rule.read("vote 0: a, s\ndoubt"), faults, (1, 0) if faults[0] > 0 else None)
        bare = Net.read("pipe p x y\npipe q y x")
        self.check(bare, "p", Rule.read("tell 0"), (3, 3, 3), (0, 0))
        self.check(Net.read("pipe p x y"), "p", Rule.read("tell 0"), (3, 3, 3), None)

    def test_the_sum_zero_and_pipes_on_no_ring(self):
        net = Net.read("pipe p a b\npipe q b c\npipe r c b\nmeter m p\nmeter k q")
        self.check(net, "p", Rule.read("tell 0"), (0, 0, 0), None)
        self.check(net, "p", Rule.read("tell 0"), (3, 3, 3), None)
        self.check(net, "p", Rule.read("tell m"), (0, 0, 0), None)
        self.check(net, "p", Rule.read("tell m"), (0, 1, 0), (1, 0))
        self.check(net, "p", Rule.read("if m == 0 go 2\ndoubt\ntell m"), (0, 3, 0), None)
        self.check(net, "p", Rule.read("if m == 0 go 2\ndoubt\ntell m"), (1, 1, 0), (1, 0))
        self.check(net, "p", Rule.read("if m == 0 go 2\ntell 0\ntell m"), (2, 3, 3), None)
        self.check(net, "q", Rule.read("tell 0"), (0, 0, 0), (0, 0))
        self.check(net, "q", Rule.read("tell k + m"), (0, 0, 0), None)
        self.check(net, "r", Rule.read("tell k - 3*m"), (0, 0, 0), None)

    def test_sealed_meters(self):
        net = THREE + Meter("s", "q", sealed=True)
        self.check(net, "p", Rule.read("tell s"), (3, 3, 3), None)
        self.check(net, "p", Rule.read("if a == s go 2\ntell b\ntell a"), (0, 1, 0), None)
        self.check(net, "p", Rule.read("if a == s go 2\ntell b\ntell a"), (0, 2, 0), (2, 0))
        self.check(net, "p", Rule.read("if a == s go 2\ntell b\ntell a"), (1, 1, 1), (1, 1))
        self.check(net, "p", Rule.read("vote 1: a, b, s\ndoubt"), (1, 1, 0), None)
        self.check(net, "p", Rule.read("vote 1: a, b, s\ndoubt"), (2, 2, 0), (2, 0))
        self.check(net, "q", Rule.read("vote 0: s\ndoubt"), (2, 3, 3), None)

    def test_large_coefficients(self):
        big = 10 ** 12 + 39
        rule = Rule.read(f"if {big}*a == {big}*b go 2\ntell c\ntell {big + 1}*a - {big}*b")
        self.check(THREE, "p", rule, (0, 1, 0), None)
        self.check(THREE, "p", rule, (0, 2, 0), (2, 0))
        self.check(THREE, "p", Rule.read(f"tell {big}*a - {big - 1}*c"), (0, 0, 0), None)
        self.check(THREE, "p", Rule.read(f"tell {big}*a - {big}*c"), (0, 0, 0), (0, 0))

    def test_many_tests_that_must_say_not_equal(self):
        texts = [str(Sum((("a", factor),))) for factor in (-3, -2, -1, 0, 2, 3)]
        rows = tuple([f"if {text} == b go 7" for text in texts])
        # A wrong meter is told only where it is far from the other one.
        for last in (("tell a", "tell c"), ("tell b", "tell c"), ("tell a", "doubt"), ("tell c", "tell 0")):
            for faults in ((0, 0, 0), (0, 1, 0), (1, 1, 0), (0, 2, 1)):
                rule = Rule(rows + last)
                self.check(THREE, "p", rule, faults, least_fooling(THREE, "p", rule.rows, faults))

    def test_arguments_by_name(self):
        self.assertTrue(check_by_name(self, is_right, net=YARD, pipe="src", rule=TWO_WAYS, faults=(1, 1, 0)))
        world = check_by_name(self, fooled, net=YARD, pipe="src", rule=TWO_WAYS, faults=(0, 2, 0))
        self.assertTrue(fools(YARD, "src", TWO_WAYS, (0, 2, 0), world))

    def test_results_are_plain(self):
        world = fooled(YARD, "src", TWO_WAYS, (1, 1, 1))
        self.assertEqual([part.__class__ for part in (world,) + world], [tuple] * 3)
        self.assertTrue(all(number is None or number.__class__ is int for part in world for number in part))
        self.assertEqual(world, fooled(Net.read(str(YARD)), "src", Rule.read(str(TWO_WAYS)), (1, 1, 1)))

    def test_all_sets_of_faults_matter(self):
        # A rule that is right but for one meter that is wrong, or one that is silent.
        for meter, others in (("a", "b c"), ("b", "a c"), ("c", "a b")):
            first, second = others.split(" ")
            for rule, faults, expected in (
                (f"vote 0: {first}, {second}\ntell {meter}", (1, 1, 0), None),
                (f"if {first} == {second} go 2\ntell {meter}\ntell {first}", (0, 0, 1), None),
                (f"if {first} == {second} go 2\ntell {first}\ntell {meter}", (0, 0, 1), (0, 1)),
                (f"vote 0: {first}, {second}\ntell 2*{meter}", (1, 1, 0), (1, 0)),
            ):
                self.check(THREE, "p", Rule.read(rule), faults, expected)


if __name__ == "__main__":
    unittest.main()
