import random
import unittest
from itertools import product

from ringvotes.nets import Meter, Net, Pipe
from ringvotes.strengths import strength
from ringvotes.sums import Sum
from ringvotes.votes import is_vote, tally, votes, voting_rule
from tests.oracles import (
    amount_at,
    expected_value,
    grid,
    keeps,
    random_flow,
    random_nets,
    ring_with,
    true_readings,
    unit_flows,
)
from tests.support import check_by_name

YARD = Net.read(
    "pipe src o a\npipe left a b\npipe right a c\npipe lout b o\npipe rout c o\n"
    "meter m1 src\nmeter m2 left\nmeter m3 right\nmeter m4 lout\nmeter m5 rout"
)
# On the long ways stand several meters at one pipe, against the direction of some pipes, and a seal on two.
LONG = Net.read(
    "pipe p a b\npipe q b c\npipe r d c\npipe s d a\npipe t c a\npipe u e b\npipe v e a\npipe w f e\n"
    "meter k3 q\nmeter k1 q\nmeter k2 r\nmeter k4 s\nmeter k5 s\nmeter k6 t\nmeter k7 t\nmeter k8 t\nmeter k9 t\n"
    "meter s1 u sealed\nmeter u1 u\nmeter m p"
)


def shown_by(net, readings):
    """The readings as a dict by the names of the meters."""
    return dict(zip([meter.name for meter in net.meters], readings))


def seals(net):
    """The names of the sealed meters."""
    return [meter.name for meter in net.meters if meter.sealed]


def expected_vote(net, name, total, flows):
    """Whether a sum is a vote, found by trying all these flows."""
    return all(
        expected_value(shown_by(net, true_readings(net, flow)), total.terms) == amount_at(net, flow, name)
        for flow in flows
    )


def nets_of_twelve():
    """Nets of twelve pipes and twelve meters."""
    doubled = Net(
        tuple([Pipe(f"p{index}", *ends) for index, ends in enumerate("ab ab bc bc cd cd da da ac ac bd db".split())]),
        tuple([Meter(f"m{index}", f"p{index}", sealed=index % 5 == 4) for index in range(12)]),
    )
    heavy = Net(grid().pipes, tuple([Meter(f"k{index}", grid().pipes[index % 4 * 3].name) for index in range(12)]))
    ring = ring_with(12, (1,) * 12)
    return [grid(), doubled, heavy, ring, ring + Meter("m5n0", "p5", sealed=True)]


class TestIsVote(unittest.TestCase):
    def test_the_yard(self):
        for name, text, expected in (
            ("src", "m1", True), ("src", "m2 + m3", True), ("src", "m4 + m5", True), ("src", "m3 + m4", True),
            ("src", "m2 + m5", True), ("src", "2*m1 - m2 - m3", True), ("src", "m2", False), ("src", "-m1", False),
            ("src", "2*m1", False), ("src", "0", False), ("src", "m1 + m2 - m4", True), ("src", "m1 + m2 + m4", False),
            ("left", "m1 - m5", True), ("left", "m1 - m4", False), ("left", "m4", True), ("left", "-m2 + 2*m4", True),
            ("left", "m1 - m3", True), ("left", "m1 - m2", False), ("rout", "m3", True), ("rout", "m3 + m4", False),
            ("src", f"{10 ** 39}*m2 + m3 - {10 ** 39 - 1}*m4", True),
            ("src", f"{10 ** 39}*m2 + m3 - {10 ** 39}*m4", False),
        ):
            self.assertIs(is_vote(YARD, name, Sum.read(text)), expected, (name, text))

    def test_all_small_sums(self):
        for net in [YARD] + random_nets(40, 25, most_pipes=5, most_meters=4, seals=3):
            flows = unit_flows(net)
            names = [meter.name for meter in net.meters]
            for numbers in product((-1, 0, 1), repeat=len(names)):
                total = Sum(tuple(zip(names, numbers)))
                for pipe in net.pipes:
                    self.assertIs(is_vote(net, pipe.name, total), expected_vote(net, pipe.name, total, flows))

    def test_sums_of_votes(self):
        dice = random.Random(41)
        for net in random_nets(42, 60, most_pipes=8, most_meters=12):
            flows = unit_flows(net)
            for pipe in net.pipes:
                found = votes(net, pipe.name)
                for one, two in product(found, repeat=2):
                    for times in (0, 1, -3, 10 ** 20):
                        self.assertIs(is_vote(net, pipe.name, times * (one - two) + one), True)
                    for meter in net.meters:
                        other = one + dice.choice((1, -1, 5)) * Sum.of(meter.name)
                        self.assertIs(is_vote(net, pipe.name, other), expected_vote(net, pipe.name, other, flows))

    def test_the_sum_zero(self):
        net = Net.read("pipe p a b\npipe q b a\npipe leg b c\npipe far d e\nmeter m leg")
        for name, expected in (("p", False), ("q", False), ("leg", True), ("far", True)):
            self.assertIs(is_vote(net, name, Sum()), expected)
            # What a meter at a pipe on no ring shows is always 0, however often it is added.
            self.assertIs(is_vote(net, name, Sum.read("7*m")), expected)

    def test_sealed_meters(self):
        net = YARD + Meter("m2", "left", sealed=True) + Meter("s", "src", sealed=True)
        for name, text, expected in (
            ("src", "s", True), ("src", "m1", True), ("left", "m2", True), ("rout", "-m2 + s", True),
            ("rout", "m2 + s", False), ("left", "s", False), ("src", "2*m1 - s", True),
        ):
            self.assertIs(is_vote(net, name, Sum.read(text)), expected)

    def test_arguments_by_name(self):
        self.assertIs(check_by_name(self, is_vote, net=YARD, pipe="left", total=Sum.read("m1 - m5")), True)
        self.assertEqual(len(check_by_name(self, votes, net=YARD, pipe="src")), 3)
        self.assertEqual(check_by_name(self, tally, net=YARD, pipe="src", readings=(7, 4, 3, 4, 3)), (7, 7, 7))
        self.assertEqual(len(check_by_name(self, voting_rule, net=YARD, pipe="src", faults=(1, 1, 0))), 2)


class TestVotes(unittest.TestCase):
    def check(self, net, flows):
        """All votes for all pipes of the net are as they are described."""
        for pipe in net.pipes:
            found = votes(net, pipe.name)
            least = strength(net, pipe.name)
            self.assertIs(found.__class__, tuple)
            self.assertEqual([total.__class__ for total in found], [Sum] * len(found))
            self.assertEqual(len(found), 1 if least is None else least)
            used = [name for total in found for name, _ in total.terms if name not in seals(net)]
            self.assertEqual(len(used), len(set(used)))
            if least is None:
                self.assertEqual(used, [])
            for total in found:
                self.assertTrue(expected_vote(net, pipe.name, total, flows), (str(net), pipe.name, str(total)))
                self.assertIs(is_vote(net, pipe.name, total), True)
            self.assertEqual(votes(Net.read(str(net)), pipe.name), found)

    def test_random_nets(self):
        for seed in range(50, 55):
            for net in random_nets(seed, 50, most_pipes=8, most_meters=12, seals=seed - 47):
                self.check(net, unit_flows(net))

    def test_nets_of_twelve(self):
        for net in nets_of_twelve():
            self.check(net, unit_flows(net)[::7] + unit_flows(net)[:200])

    def test_long_ways(self):
        self.check(LONG, unit_flows(LONG))
        self.assertEqual([len(votes(LONG, name)) for name in "pqrstuvw"], [6, 6, 6, 6, 7, 1, 1, 1])
        self.assertEqual([str(votes(LONG, name)[0]) for name in "uvw"], ["s1", "-s1", "0"])

    def test_the_yard(self):
        self.check(YARD, unit_flows(YARD))
        self.assertEqual(sorted([str(total) for total in votes(YARD, "src")]), ["m1", "m2 + m3", "m4 + m5"])

    def test_no_votes(self):
        net = Net.read("pipe p a b\npipe q b a\npipe r a b\nmeter m r")
        self.assertEqual([votes(net, "p"), votes(net, "q")], [(), ()])
        self.assertEqual(votes(net, "r"), (Sum.of("m"),))
        self.assertEqual(tally(net, "p", (4,)), ())

    def test_pipes_on_no_ring(self):
        net = Net.read("pipe p a b\npipe q b a\npipe leg b c\npipe far d e\nmeter m leg\nmeter n far")
        for name in ("leg", "far"):
            self.assertEqual(votes(net, name), (Sum(),))
        sealed = net + Meter("n", "far", sealed=True)
        self.check(sealed, unit_flows(sealed))

    def test_pipes_with_sealed_meters(self):
        net = YARD + Meter("s2", "src", sealed=True) + Meter("s1", "src", sealed=True)
        self.check(net, unit_flows(net))
        self.assertIn(votes(net, "src"), [(Sum.of("s1"),), (Sum.of("s2"),)])
        net = YARD + Meter("m2", "left", sealed=True) + Meter("m3", "right", sealed=True)
        self.assertEqual(votes(net, "src"), (Sum.read("m2 + m3"),))
        self.check(net, unit_flows(net))

    def test_rings_of_one_direction_and_against_it(self):
        for many in range(2, 7):
            for turned in product((False, True), repeat=many):
                pipes = []
                for at, ahead in enumerate(turned):
                    ends = (f"a{at}", f"a{(at + 1) % many}")
                    pipes.append(Pipe(f"p{at}", *(ends if ahead else ends[::-1])))
                net = Net(tuple(pipes), tuple([Meter(f"m{at}", f"p{at // 2}") for at in range(many)]))
                self.check(net, [tuple([1 if turn else -1 for turn in turned]), (0,) * many])


class TestTally(unittest.TestCase):
    def test_silent_and_wrong_meters(self):
        order = [str(total) for total in votes(YARD, "src")]
        for readings, values in (
            ((7, 4, 3, 4, 3), (7, 7, 7)), ((9, 4, 3, 4, 3), (9, 7, 7)), ((7, None, 3, 4, 3), (7, None, 7)),
            ((None, None, None, None, None), (None, None, None)), ((7, 4, 4, 0, -9), (7, 8, -9)),
            ((None, 4, 3, 4, None), (None, 7, None)), ((0, 10 ** 39, 1, 0, 0), (0, 10 ** 39 + 1, 0)),
        ):
            told = dict(zip(("m1", "m2 + m3", "m4 + m5"), values))
            self.assertEqual(tally(YARD, "src", readings), tuple([told[text] for text in order]))

    def test_random_readings(self):
        dice = random.Random(60)
        for net in random_nets(61, 100, most_pipes=9, most_meters=12):
            readings = tuple([
                dice.randint(-9, 9) if meter.sealed else dice.choice((None, 1, 2, 10 ** 30)) for meter in net.meters
            ])
            for pipe in net.pipes:
                values = [expected_value(shown_by(net, readings), total.terms) for total in votes(net, pipe.name)]
                self.assertEqual(tally(net, pipe.name, readings), tuple(values))

    def test_no_faults(self):
        dice = random.Random(62)
        for net in random_nets(63, 60, most_pipes=9, most_meters=12):
            flow = random_flow(dice, net, 10 ** 20)
            self.assertTrue(keeps(net, flow))
            for pipe in net.pipes:
                found = tally(net, pipe.name, true_readings(net, flow))
                self.assertEqual(set(found), {amount_at(net, flow, pipe.name)} if found else set())


if __name__ == "__main__":
    unittest.main()
