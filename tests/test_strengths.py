import unittest
from itertools import product

from ringvotes.errors import InvalidFaults, NotANet, UnknownName
from ringvotes.nets import Meter, Net, Pipe
from ringvotes.strengths import can_tell, misleading, ring_through, strength
from ringvotes.sums import Sum
from tests.oracles import (
    ALL_FAULTS,
    amount_at,
    expected_strength,
    grid,
    keeps,
    met,
    passes_seals,
    random_nets,
    ring_with,
    unit_flows,
    world_counts,
)
from tests.support import check_all_given, check_by_name, check_given, odd_faults, odd_tuples, odd_values, raised

YARD = Net.read(
    "pipe src o a\npipe left a b\npipe right a c\npipe lout b o\npipe rout c o\n"
    "meter m1 src\nmeter m2 left\nmeter m3 right\nmeter m4 lout\nmeter m5 rout"
)


def ways(*lengths):
    """Two places joined by ways of one pipe each, with so many meters; every second pipe goes back."""
    pipes = [Pipe(f"p{index}", *("ab" if index % 2 else "ba")) for index in range(len(lengths))]
    meters = [Meter(f"m{index}n{more}", f"p{index}") for index in range(len(lengths)) for more in range(lengths[index])]
    return Net(tuple(pipes), tuple(meters))


def sealed(net, name):
    """The net in which the meter with this name is sealed."""
    return net + Meter(name, net.meter(name).at, sealed=True)


def large_nets():
    """Nets of twelve pipes or twelve meters."""
    edges = "ab bc cd da ae bf cg dh ef fg gh he".split()
    pipes = tuple([Pipe(f"e{index}", *ends) for index, ends in enumerate(edges)])
    cube = Net(pipes, tuple([Meter(f"x{index}", f"e{index * 5 % 12}") for index in range(12)]))
    heavy = Net(grid().pipes, tuple([
        Meter(f"k{index}", grid().pipes[index // 3 * 2].name, sealed=index == 11) for index in range(12)
    ]))
    return [grid(), cube, heavy, ring_with(12, (1,) * 12), ways(0, 1, 2, 3, 6), sealed(cube, "x3")]


def faults_of(bound):
    """All faults with this sum."""
    return [faults for faults in ALL_FAULTS if sum(faults) == bound]


class TestStrength(unittest.TestCase):
    def check(self, net):
        """Strengths, rings and what can be told of all pipes are as found by trying all flows of -1, 0 and 1."""
        flows = unit_flows(net)
        for pipe in net.pipes:
            least = expected_strength(net, pipe.name, flows)
            found = strength(net, pipe.name)
            self.assertEqual(found, least, (str(net), pipe.name))
            self.assertIs(found.__class__, least.__class__)
            self.check_ring(net, pipe.name, least)
            bound = 4 if least is None else least
            for faults in faults_of(bound - 1)[-2:] + faults_of(bound)[:2] + [(3, 3, 3)]:
                self.assertIs(can_tell(net, pipe.name, faults), least is None or sum(faults) < least)

    def check_ring(self, net, name, least):
        ring = ring_through(net, name)
        if least is None:
            self.assertIsNone(ring)
            return
        self.assertIs(ring.__class__, tuple)
        self.assertEqual({amount.__class__ for amount in ring}, {int})
        self.assertTrue(set(ring) <= {-1, 0, 1} and len(ring) == len(net.pipes))
        self.assertEqual(amount_at(net, ring, name), 1)
        self.assertTrue(keeps(net, ring) and passes_seals(net, ring))
        self.assertEqual(len(met(net, ring)), least)

    def test_random_nets(self):
        for seed in range(10, 16):
            for net in random_nets(seed, 40, most_pipes=8, most_meters=12, seals=seed - 5):
                self.check(net)

    def test_all_nets_of_three_pipes(self):
        for ends in product(("ab", "ba", "bc"), ("ab", "bc", "cb"), ("ab", "ca")):
            pipes = tuple([Pipe(f"p{index}", *pair) for index, pair in enumerate(ends)])
            for places in product(range(3), repeat=3):
                for at in range(4):
                    meters = [Meter(f"m{index}", f"p{place}", sealed=index == at) for index, place in enumerate(places)]
                    self.check(Net(pipes, tuple(meters)))

    def test_large_nets(self):
        for net in large_nets():
            self.check(net)

    def test_the_yard(self):
        self.check(YARD)
        self.assertEqual([strength(YARD, pipe.name) for pipe in YARD.pipes], [3, 3, 3, 3, 3])
        self.assertEqual([strength(YARD - "m4", pipe.name) for pipe in YARD.pipes], [2, 2, 3, 2, 3])
        self.assertEqual(ring_through(YARD - "m4", "left"), (1, 1, 0, 1, 0))
        self.assertEqual(ring_through(YARD - "m3", "rout"), (1, 0, 1, 0, 1))

    def test_ways_between_two_places(self):
        for lengths in ((1, 2), (3, 4, 5), (0, 1, 2, 3), (2, 2, 2), (0, 0, 5), (12, 0), (6, 6), (1,) * 12, (5, 1, 3)):
            net = ways(*lengths)
            for at, length in enumerate(lengths):
                others = lengths[:at] + lengths[at + 1:]
                self.assertEqual(strength(net, f"p{at}"), length + min(others))
            if len(lengths) < 7:
                self.check(net)

    def test_ways_of_several_pipes_against_their_direction(self):
        net = Net.read(
            "pipe a1 s x\npipe a2 t x\npipe b1 t y\npipe b2 y z\npipe b3 s z\npipe c s t\n"
            "meter m1 a1\nmeter m2 a2\nmeter m3 a2\nmeter m4 b1\nmeter m5 b2\nmeter m6 c\nmeter m7 c"
        )
        self.assertEqual([strength(net, name) for name in ("a1", "a2", "b1", "b2", "b3", "c")], [5, 5, 4, 4, 4, 4])
        self.assertEqual(ring_through(net, "a1"), (1, -1, 1, 1, -1, 0))
        self.assertEqual(ring_through(net, "c"), (0, 0, 1, 1, -1, 1))
        self.assertEqual(ring_through(net, "b3"), (0, 0, -1, -1, 1, -1))
        self.check(net)

    def test_pipes_on_no_ring(self):
        net = Net.read("pipe p a b\npipe q b a\npipe leg b c\npipe far d e\nmeter m p\nmeter n leg")
        self.assertEqual([strength(net, name) for name in ("p", "q", "leg", "far")], [1, 1, None, None])
        self.assertEqual([ring_through(net, name) for name in ("leg", "far")], [None, None])
        self.assertIs(can_tell(net, "far", (3, 3, 3)), True)
        self.check(net)
        bridge = Net.read("pipe p a b\npipe q b a\npipe over b c\npipe r c d\npipe s d c")
        self.assertEqual([strength(bridge, pipe.name) for pipe in bridge.pipes], [0, 0, None, 0, 0])

    def test_pipes_with_sealed_meters(self):
        net = sealed(YARD, "m2")
        self.assertEqual([strength(net, pipe.name) for pipe in net.pipes], [3, None, 3, None, 3])
        for net in (sealed(YARD, "m1"), sealed(sealed(YARD, "m2"), "m5")):
            self.check(net)
        # A seal shuts the pipe, also for the meters without a seal beside it.
        net = ways(1, 2, 3) + Meter("s", "p0", sealed=True)
        self.assertEqual([strength(net, name) for name in ("p0", "p1", "p2")], [None, 5, 5])
        self.check(net)

    def test_rings_of_pipes_without_meters(self):
        net = Net.read("pipe p a b\npipe q b c\npipe r c a\npipe s a c\nmeter m s")
        self.assertEqual([strength(net, name) for name in ("p", "q", "r", "s")], [0, 0, 0, 1])
        self.assertEqual(ring_through(net, "p"), (1, 1, 1, 0))
        self.assertIs(can_tell(net, "p", (0, 0, 0)), False)
        self.assertIs(can_tell(net, "s", (0, 0, 0)), True)
        self.check(net)
        self.check(Net.read("pipe p a b\npipe q b a\npipe r a b\npipe s b c\npipe t c a\npipe u c b"))

    def test_rings_that_cross(self):
        net = Net.read(
            "pipe a m1 m2\npipe b m2 m3\npipe c m3 m1\npipe d m3 m4\npipe e m4 m1\npipe f m2 m4\n"
            "meter k1 a\nmeter k2 a\nmeter k3 b\nmeter k4 d\nmeter k5 d\nmeter k6 e\nmeter k7 f\nmeter k8 f"
        )
        self.assertEqual(strength(net, "c"), 3)
        self.check(net)

    def test_a_ring_of_twelve(self):
        net = ring_with(12, (1,) * 12)
        self.assertEqual([strength(net, f"p{index}") for index in range(12)], [12] * 12)
        self.assertEqual(ring_through(net, "p7"), (1,) * 12)
        self.assertEqual([strength(grid(), pipe.name) for pipe in grid().pipes], [4] * 12)

    def test_the_bound_and_one_to_each_side(self):
        for many in range(11):
            net = ways(many, 0)
            for more in (-1, 0, 1):
                for faults in faults_of(many + more):
                    self.assertIs(can_tell(net, "p0", faults), more < 0)

    def test_arguments_by_name(self):
        self.assertEqual(check_by_name(self, strength, net=YARD, pipe="src"), 3)
        self.assertEqual(check_by_name(self, ring_through, net=YARD - "m4", pipe="left"), (1, 1, 0, 1, 0))
        self.assertIs(check_by_name(self, can_tell, net=YARD, pipe="src", faults=(1, 1, 0)), True)
        self.assertIsNone(check_by_name(self, misleading, net=YARD, pipe="src", faults=(1, 1, 0)))
        self.assertEqual(len(check_by_name(self, misleading, net=YARD, pipe="src", faults=(1, 1, 1))), 2)


class TestMisleading(unittest.TestCase):
    def check(self, net, name, faults):
        found = misleading(net, name, faults)
        if can_tell(net, name, faults):
            self.assertIsNone(found)
            return
        healed, noticed, silent = faults
        self.assertIs(found.__class__, tuple)
        first, second = found
        self.assertEqual((first.__class__, second.__class__), (tuple, tuple))
        self.assertEqual(first[1], second[1])
        self.assertNotEqual(amount_at(net, first[0], name), amount_at(net, second[0], name))
        for world, most in ((first, healed), (second, noticed)):
            self.assertEqual([len(world), world[0].__class__, world[1].__class__], [2, tuple, tuple])
            wrong, quiet = world_counts(net, world)
            self.assertLessEqual(wrong, most)
            self.assertLessEqual(quiet, silent)

    def test_random_nets(self):
        for net in random_nets(20, 60, most_pipes=7, most_meters=12, seals=9):
            for pipe in net.pipes:
                for faults in ALL_FAULTS:
                    self.check(net, pipe.name, faults)

    def test_large_nets(self):
        for net in large_nets():
            for pipe in net.pipes:
                for faults in faults_of(9) + faults_of(4) + [(0, 3, 1), (1, 1, 2), (2, 3, 1), (1, 2, 3)]:
                    self.check(net, pipe.name, faults)

    def test_the_last_faults_that_mislead(self):
        for many in range(10):
            net = ways(many, 0)
            for faults in faults_of(many):
                self.assertIsNotNone(misleading(net, "p1", faults))
                self.check(net, "p1", faults)
                self.assertIsNone(misleading(ways(many, 1), "p1", faults))

    def test_the_literal_definition(self):
        # No net here needs amounts or readings other than these: the difference of two worlds may be taken as a ring.
        for net in random_nets(21, 12, most_pipes=3, most_meters=3, seals=5) + [ways(1, 2), ways(1, 1, 1), ways(0, 3)]:
            worlds = [
                (flow, readings, world_counts(net, (flow, readings)))
                for flow in unit_flows(net)
                for readings in product((None, -1, 0, 1), repeat=len(net.meters))
            ]
            worlds = [world for world in worlds if world[2] is not None]
            for pipe in net.pipes:
                self.check_literally(net, pipe.name, worlds)

    def check_literally(self, net, name, worlds):
        needed = {
            (one[2][0], two[2][0], one[2][1])
            for one in worlds
            for two in worlds
            if one[1] == two[1] and amount_at(net, one[0], name) != amount_at(net, two[0], name)
        }
        for healed, noticed, silent in ALL_FAULTS:
            told = not any(low <= healed and high <= noticed and quiet <= silent for low, high, quiet in needed)
            self.assertIs(can_tell(net, name, (healed, noticed, silent)), told)
            self.check(net, name, (healed, noticed, silent))


class TestErrors(unittest.TestCase):
    def test_no_net(self):
        for value in odd_values() + odd_tuples() + [(), Net, str(YARD), Sum(), YARD.pipes, Pipe("p", "a", "b")]:
            for call in (strength, ring_through):
                check_given(self, NotANet, value, call, value, "src")
                check_given(self, NotANet, value, call, value, None)
            for call in (can_tell, misleading):
                check_given(self, NotANet, value, call, value, "src", (0, 0, 0))
                check_given(self, NotANet, value, call, value, 1, None)

    def test_no_pipe_of_the_net(self):
        others = odd_values() + odd_tuples()
        others += [(), "srcs", "sr", "m1", "a", "o", "left ", YARD.pipes[0], ("src",), YARD]
        for call in (strength, ring_through):
            check_all_given(self, UnknownName, others, call, YARD)
        for call in (can_tell, misleading):
            check_all_given(self, UnknownName, others, call, YARD, behind=((0, 0, 0),))
            check_all_given(self, UnknownName, others, call, YARD, behind=((1, 0, 0),))

    def test_no_faults(self):
        for net in (YARD, Net.read("pipe src a b"), Net.read("pipe src a b\npipe q a b\nmeter m src sealed")):
            check_all_given(self, InvalidFaults, odd_faults(), can_tell, net, "src")
            check_all_given(self, InvalidFaults, odd_faults(), misleading, net, "src")

    def test_all_small_triples(self):
        for triple in product(range(-1, 5), repeat=3):
            if triple in ALL_FAULTS:
                self.assertIs(can_tell(YARD, "src", triple), sum(triple) < 3)
                self.assertIs(misleading(YARD, "src", triple) is None, sum(triple) < 3)
            else:
                check_given(self, InvalidFaults, triple, can_tell, YARD, "src", triple)
                check_given(self, InvalidFaults, triple, misleading, net=YARD, pipe="src", faults=triple)

    def test_several_wrong_arguments(self):
        for call in (can_tell, misleading):
            self.assertEqual(raised(self, NotANet, call, 1, 2, 3).given, 1)
            self.assertEqual(raised(self, UnknownName, call, YARD, 2, 3).given, 2)
            self.assertEqual(raised(self, InvalidFaults, call, YARD, "src", 3).given, 3)


if __name__ == "__main__":
    unittest.main()
