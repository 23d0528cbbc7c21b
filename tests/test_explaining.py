import random
import unittest
from itertools import combinations, product

from ringvotes.errors import InvalidNumber, InvalidReadings, NoWorld, NotANet, UnknownName
from ringvotes.explaining import explanations, sure, surely_wrong
from ringvotes.nets import Meter, Net, Pipe
from ringvotes.sums import Sum
from tests.drawn import drawn_readings
from tests.linear import fit, told_flow
from tests.oracles import amount_at, grid, keeps, random_flow, random_nets, ring_with, true_readings
from tests.support import (
    SameAsAll,
    Sour,
    check_by_name,
    check_given,
    check_index,
    odd_numbers,
    odd_tuples,
    odd_values,
    raised,
)

YARD = Net.read(
    "pipe src o a\npipe left a b\npipe right a c\npipe lout b o\npipe rout c o\n"
    "meter m1 src\nmeter m2 left\nmeter m3 right\nmeter m4 lout\nmeter m5 rout"
)
SEEN = (7, 4, 3, 4, 5)
# One pipe with several meters, a sealed one, pipes without meters, and a pipe on no ring.
MIXED = Net.read(
    "pipe p x y\npipe q y x\npipe r x y\npipe s y z\npipe t y x\n"
    "meter a p\nmeter b p\nmeter c q sealed\nmeter d s\nmeter e r"
)
BIG = 10 ** 39


def explaining_sets(net, readings, most):
    """All sets of so many meters at most that explain readings, as ascending tuples."""
    names = sorted([
        meter.name for meter, seen in zip(net.meters, readings) if seen is not None and not meter.sealed
    ])
    return [
        chosen for many in range(most + 1) for chosen in combinations(names, many) if fit(net, readings, chosen)
    ]


def least_sets(net, readings, most):
    """Those of them of which no proper part explains the readings, small ones first, then ascending."""
    found = explaining_sets(net, readings, most)
    least = [chosen for chosen in found if not any(set(other) < set(chosen) for other in found)]
    return tuple(sorted(least, key=lambda chosen: (len(chosen), chosen)))


class TestExplanations(unittest.TestCase):
    def check(self, net, readings, most, expected=None):
        least = least_sets(net, readings, most)
        self.assertEqual(explanations(net, readings, most), least, (str(net), readings, most))
        if expected is not None:
            self.assertEqual(least, expected)

    def test_the_yard(self):
        self.check(YARD, SEEN, 0, ())
        self.check(YARD, SEEN, 1, (("m5",),))
        self.check(YARD, SEEN, 2, (("m5",), ("m1", "m3")))
        self.check(YARD, SEEN, 3, (("m5",), ("m1", "m3"), ("m2", "m3", "m4")))

    def test_drawn_readings(self):
        dice = random.Random(130)
        many = 0
        for net in random_nets(131, 300, most_pipes=7, most_meters=8, seals=6) + [YARD, MIXED, grid()]:
            for most in range(4 if len(net.meters) < 9 else 3):
                readings = drawn_readings(dice, net)
                self.check(net, readings, most)
                many += len(explanations(net, readings, most)) > 1
        self.assertGreater(many, 50)

    def test_readings_that_fit(self):
        dice = random.Random(132)
        for net in random_nets(133, 60, most_pipes=7, most_meters=8):
            readings = true_readings(net, random_flow(dice, net, 9))
            for most in range(4):
                self.check(net, readings, most, ((),))
        for most in range(4):
            self.check(YARD, (None,) * 5, most, ((),))
            self.check(YARD, (None, 4, None, None, None), most, ((),))
            self.check(Net.read("pipe p a b"), (), most, ((),))

    def test_no_explanation(self):
        net = ring_with(2, (6, 6))
        self.check(net, (1,) * 6 + (2,) * 6, 3, ())
        self.check(net, (1,) * 8 + (2,) * 4, 3, ())
        self.check(net, (1,) * 9 + (2,) * 3, 3, (("m1n3", "m1n4", "m1n5"),))
        self.check(net, (1,) * 9 + (2,) * 3, 2, ())
        self.check(net, (1,) * 8 + (None,) + (2,) * 3, 3, (("m1n3", "m1n4", "m1n5"),))

    def test_sealed_and_silent_meters_explain_nothing(self):
        # The sealed meter is right, so all others that differ are wrong.
        self.check(MIXED, (1, 1, 2, 0, 1), 3, ((),))
        self.check(MIXED, (1, 2, 5, 0, 1), 3, (("a",), ("b",)))
        self.check(MIXED, (1, 1, 2, 3, 1), 3, (("d",),))
        self.check(MIXED, (1, 2, 2, 3, 1), 3, (("a", "d"), ("b", "d")))
        self.check(MIXED, (1, 2, 2, 3, None), 3, (("a", "d"), ("b", "d")))
        self.check(MIXED, (1, None, 2, None, 3), 3, ((),))
        self.check(MIXED - "c", (1, 2, 3, None), 1, ())
        sealed = Net.read("pipe p x y\nmeter a p sealed\nmeter b p")
        self.check(sealed, (0, 4), 3, (("b",),))
        # No flow of the net shows 4 at a pipe on no ring, and a sealed meter is never wrong.
        self.check(sealed, (4, 4), 3, ())
        self.check(sealed, (4, None), 3, ())

    def test_order(self):
        net = Net.read("pipe p x y\npipe q y x\nmeter c p\nmeter a q\nmeter b p\nmeter d q")
        self.check(net, (1, 2, 1, 2), 2, (("a", "d"), ("b", "c")))
        self.check(net, (1, 2, 3, 2), 2, (("b", "c"),))
        self.check(net, (1, 2, 3, 4), 3, (("a", "b", "c"), ("a", "b", "d"), ("a", "c", "d"), ("b", "c", "d")))
        self.check(net, (None, 2, 1, None), 3, (("a",), ("b",)))

    def test_integers_of_many_digits(self):
        self.check(YARD, (BIG, BIG - 1, 1, BIG - 1, 1), 1, ((),))
        self.check(YARD, (BIG, BIG - 1, 2, BIG - 1, 1), 1, (("m3",),))
        self.check(YARD, (-BIG, 1 - BIG, -1, -BIG, -1), 1, (("m4",),))
        self.check(YARD, (-BIG, 2 - BIG, -1, -BIG, -1), 2)

    def test_by_name(self):
        self.assertEqual(check_by_name(self, explanations, net=YARD, readings=SEEN, most=1), (("m5",),))


class TestSure(unittest.TestCase):
    def check(self, net, readings, most):
        """Flows that are sure and meters that are surely wrong are as found by trying all sets of meters."""
        found = explaining_sets(net, readings, most)
        if not found:
            for pipe in net.pipes:
                self.assertEqual(raised(self, NoWorld, sure, net, readings, pipe.name, most).most, most)
            self.assertEqual(raised(self, NoWorld, surely_wrong, net, readings, most).most, most)
            return
        for pipe in net.pipes:
            flows = {told_flow(net, readings, chosen, pipe.name) for chosen in found}
            expected = flows.pop()[0] if len(flows) == 1 else None
            self.assertEqual(sure(net, readings, pipe.name, most), expected, (str(net), readings, pipe.name, most))
        names = sorted([meter.name for meter in net.meters])
        expected = tuple([name for name in names if all(name in chosen for chosen in found)])
        self.assertEqual(surely_wrong(net, readings, most), expected, (str(net), readings, most))

    def test_the_yard(self):
        for most in range(4):
            self.check(YARD, SEEN, most)
        self.assertEqual([sure(YARD, SEEN, pipe.name, 1) for pipe in YARD.pipes], [7, 4, 3, 4, 3])
        self.assertEqual([sure(YARD, SEEN, pipe.name, 2) for pipe in YARD.pipes], [None, 4, None, 4, None])
        self.assertEqual([surely_wrong(YARD, SEEN, most) for most in (1, 2, 3)], [("m5",), (), ()])

    def test_drawn_readings(self):
        dice = random.Random(140)
        for net in random_nets(141, 250, most_pipes=6, most_meters=6, seals=6) + [MIXED] * 5:
            for most in range(3):
                self.check(net, drawn_readings(dice, net), most)
        for net in random_nets(142, 30, most_pipes=7, most_meters=8):
            self.check(net, drawn_readings(dice, net), 3)

    def test_by_all_small_worlds(self):
        dice = random.Random(143)
        for net in random_nets(144, 40, most_pipes=4, most_meters=4):
            small = [flow for flow in product(range(-2, 3), repeat=len(net.pipes)) if keeps(net, flow)]
            readings = true_readings(net, dice.choice(small))
            readings = tuple([seen + dice.choice((0, 0, 0, 1)) * (not meter.sealed) for seen, meter in
                              zip(readings, net.meters)])
            for most in (0, 1, 2):
                worlds = [flow for flow in small if self.is_world(net, flow, readings, most)]
                if worlds:
                    for pipe in net.pipes:
                        told = sure(net, readings, pipe.name, most)
                        flows = {amount_at(net, flow, pipe.name) for flow in worlds}
                        # With larger integers there may be further flows, so that less is sure.
                        self.assertIn(told, flows | {None} if len(flows) == 1 else {None})

    def is_world(self, net, flow, readings, most):
        """Whether these readings are seen with this flow and so many wrong meters."""
        true = true_readings(net, flow)
        if any(meter.sealed and seen != right for meter, seen, right in zip(net.meters, readings, true)):
            return False
        return len([1 for seen, right in zip(readings, true) if seen not in (None, right)]) <= most

    def test_pipes_without_meters(self):
        net = Net.read("pipe p x y\npipe q y x\npipe r y x\npipe s y z\npipe t z w\npipe u w y\nmeter a p")
        # The flow may come back by either one of two pipes, and may go round the ring of s, t and u.
        self.assertEqual([sure(net, (5,), pipe.name) for pipe in net.pipes], [5, None, None, None, None, None])
        net = net + Meter("b", "q")
        self.assertEqual([sure(net, (5, 3), pipe.name) for pipe in net.pipes], [5, 3, 2, None, None, None])
        self.assertEqual([sure(net, (5, 3), pipe.name, 1) for pipe in net.pipes], [None] * 6)
        net = net + Meter("c", "u", sealed=True)
        self.assertEqual([sure(net, (5, 3, -1), pipe.name) for pipe in net.pipes], [5, 3, 2, -1, -1, -1])
        self.assertEqual([sure(net, (5, 3, -1), pipe.name, 1) for pipe in net.pipes], [None, None, None, -1, -1, -1])
        self.assertEqual([sure(net, (None, 3, -1), pipe.name) for pipe in net.pipes], [None, 3, None, -1, -1, -1])

    def test_pipes_on_no_ring(self):
        net = Net.read("pipe p x y\npipe q y z\nmeter a p\nmeter b p\nmeter c p")
        for readings in ((0, 0, 0), (None, None, None), (4, 0, 0), (4, 4, 4)):
            self.assertEqual([sure(net, readings, name, 3) for name in "pq"], [0, 0])
        self.assertEqual(surely_wrong(net, (4, 4, 4), 3), ("a", "b", "c"))
        self.assertEqual(surely_wrong(net, (4, 0, None), 3), ("a",))
        self.assertEqual(raised(self, NoWorld, sure, net, (4, 4, 4), "q", 2).most, 2)
        self.assertIs(sure(Net.read("pipe p x y"), (), "p").__class__, int)

    def test_surely_wrong(self):
        self.assertEqual(surely_wrong(MIXED, (1, 2, 2, 3, 1), 2), ("d",))
        self.assertEqual(surely_wrong(MIXED, (1, 2, 2, 3, 1), 3), ("d",))
        self.assertEqual(surely_wrong(MIXED, (1, 1, 2, 0, 1)), ())
        net = Net.read("pipe p x y\npipe q y x\nmeter z p\nmeter y p\nmeter a q\nmeter b q\nmeter s q sealed")
        self.assertEqual(surely_wrong(net, (1, 1, 2, 2, 2), 2), ("y", "z"))
        self.assertEqual(surely_wrong(net, (1, 1, 2, 1, 2), 3), ("b", "y", "z"))
        self.assertEqual(raised(self, NoWorld, surely_wrong, net, (1, 1, 2, 1, 2), 2).most, 2)

    def test_no_world(self):
        for most in range(2):
            self.check(ring_with(2, (2, 2)), (1, 1, 2, 2), most)
        self.check(ring_with(2, (2, 2)), (1, 1, 2, 2), 2)
        sealed = Net.read("pipe p x y\npipe q y x\nmeter a p sealed\nmeter b q sealed\nmeter c q")
        for most in range(4):
            self.assertEqual(raised(self, NoWorld, sure, sealed, (1, 2, 2), "p", most).most, most)
            self.assertEqual(raised(self, NoWorld, surely_wrong, sealed, (1, 2, None), most).most, most)
        # `most` is the number that counts, also if it was not passed.
        self.assertEqual(raised(self, NoWorld, sure, YARD, SEEN, "src").most, 0)
        self.assertEqual(raised(self, NoWorld, surely_wrong, YARD, SEEN).most, 0)

    def test_integers_of_many_digits(self):
        seen = (BIG, BIG - 1, 1, None, 1)
        self.assertEqual([sure(YARD, seen, pipe.name) for pipe in YARD.pipes], [BIG, BIG - 1, 1, BIG - 1, 1])
        self.check(YARD, (-BIG, BIG, 1, None, 1), 2)

    def test_twelve_meters(self):
        readings = true_readings(grid(), random_flow(random.Random(145), grid(), 20))
        wrong = (readings[0] + 1,) + readings[1:]
        self.assertEqual(surely_wrong(grid(), wrong, 1), ("mh00",))
        self.assertEqual([sure(grid(), wrong, pipe.name, 1) for pipe in grid().pipes], list(readings))

    def test_by_name(self):
        self.assertEqual(check_by_name(self, sure, net=YARD, readings=SEEN, pipe="src", most=1), 7)
        self.assertEqual(check_by_name(self, surely_wrong, net=YARD, readings=SEEN, most=1), ("m5",))


class TestErrors(unittest.TestCase):
    def calls(self, net, readings, most=1):
        return [(explanations, (net, readings, most)), (sure, (net, readings, "src", most)),
                (surely_wrong, (net, readings, most))]

    def test_no_net(self):
        for value in odd_values() + odd_tuples() + [(), Net, str(YARD), Sum()]:
            for readings in (SEEN, None):
                for call, values in self.calls(value, readings, None):
                    check_given(self, NotANet, value, call, *values)

    def test_no_readings(self):
        net = YARD + Meter("m2", "left", sealed=True)
        for value in odd_values() + odd_tuples() + [(), (0,) * 4, (0,) * 6, [0] * 5, "00000", (SEEN,)]:
            for call, values in self.calls(net, value) + self.calls(net, value, None):
                check_index(self, InvalidReadings, None, call, *values)
            check_index(self, InvalidReadings, None, sure, net=net, readings=value, pipe=None)
        for other in ("0", True, False, (0,), [], 1j, SameAsAll(), Sour(), Sum()):
            for at in range(5):
                for call, values in self.calls(net, (0,) * at + (other,) * (5 - at)):
                    check_index(self, InvalidReadings, at, call, *values)
        for call, values in self.calls(net, (None,) * 5):
            check_index(self, InvalidReadings, 1, call, *values)

    def test_no_pipe_of_the_net(self):
        for value in odd_values() + odd_tuples() + [(), "m1", "a", "srcs", YARD.pipes[0], YARD]:
            check_given(self, UnknownName, value, sure, YARD, SEEN, value)
            check_given(self, UnknownName, value, sure, most=9, pipe=value, readings=SEEN, net=YARD)

    def test_no_number(self):
        for value in odd_numbers():
            for readings in (SEEN, (7, 4, 3, 4, 3)):
                for call, values in self.calls(YARD, readings, value):
                    check_given(self, InvalidNumber, value, call, *values)
            check_given(self, InvalidNumber, value, sure, YARD, SEEN, "src", most=value)

    def test_several_wrong_arguments(self):
        check_given(self, NotANet, 1, sure, 1, 2, 3, 4)
        check_index(self, InvalidReadings, None, sure, YARD, 2, 3, 4)
        check_given(self, UnknownName, 3, sure, YARD, SEEN, 3, 4)
        check_given(self, InvalidNumber, 4, sure, YARD, SEEN, "src", 4)
        check_index(self, InvalidReadings, None, explanations, YARD, 2, 4)
        check_index(self, InvalidReadings, 0, surely_wrong, YARD, ("7",) + SEEN[1:], 4)
        # There is no world, but this is checked last.
        check_given(self, InvalidNumber, -1, surely_wrong, YARD, SEEN, -1)

    def test_pipes_in_a_row(self):
        net = Net(tuple([Pipe(f"p{index}", f"a{index}", f"a{index + 1}") for index in range(12)]))
        self.assertEqual([sure(net, (), f"p{index}", 3) for index in range(12)], [0] * 12)


if __name__ == "__main__":
    unittest.main()
