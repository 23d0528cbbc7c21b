import random
import unittest
from itertools import permutations

from ringvotes.errors import InvalidFlow, InvalidWorld, NotANet
from ringvotes.nets import Meter, Net, Pipe
from ringvotes.sums import Sum
from ringvotes.worlds import is_flow, readings_of, silent_meters, wrong_meters
from tests.oracles import keeps, random_flow, random_nets, true_readings, unit_flows, world_counts
from tests.support import SameAsAll, Sour, check_by_name, check_given, nested, odd_tuples, odd_values

YARD = Net.read(
    "pipe src o a\npipe left a b\npipe right a c\npipe lout b o\npipe rout c o\n"
    "meter m1 src\nmeter m2 left\nmeter m3 right\nmeter m4 lout\nmeter m5 rout"
)
FLOW = (7, 4, 3, 4, 3)
SEALED = YARD + Meter("m3", "right", sealed=True) + Meter("k2", "src") + Meter("k1", "left", sealed=True)
BIG = 10 ** 29 + 1


def no_flows(flow):
    """Values that differ from a flow of at least one pipe and are no flows of the same net."""
    found = [flow[:-1], flow + (0,), (0,) + flow, flow + flow, (), list(flow), (flow,), [flow], str(flow), set(flow)]
    found += [dict(enumerate(flow)), flow[:-1] + (None,), (None,) + flow[1:], (None,) * len(flow), iter(flow)]
    for at, amount in enumerate(flow):
        for other in (str(amount), None, True, False, [amount], (amount,), b"0", 1j, "", SameAsAll(), Sour(), Sum()):
            found.append(flow[:at] + (other,) + flow[at + 1:])
    return found + odd_values() + odd_tuples()


class TestFlows(unittest.TestCase):
    def test_flows_of_the_yard(self):
        for left in (0, 1, -1, 4, 10 ** 29, -(10 ** 30 - 1)):
            for right in (0, 3, -3, left, -left, BIG):
                flow = (left + right, left, right, left, right)
                self.assertIs(is_flow(YARD, flow), True)
                self.assertIs(is_flow(YARD, tuple([-amount for amount in flow])), True)

    def test_one_entry_changed(self):
        for flow in (FLOW, (0,) * 5, (BIG + 1, BIG, 1, BIG, 1), (-2, -1, -1, -1, -1)):
            for at in range(5):
                for more in (1, -1, 2, 7, 100, -(10 ** 29), 10 ** 30 - 1):
                    self.assertIs(is_flow(YARD, flow[:at] + (flow[at] + more,) + flow[at + 1:]), False)

    def test_entries_exchanged(self):
        for row in permutations(FLOW):
            self.assertIs(is_flow(YARD, row), row in (FLOW, (7, 3, 4, 3, 4)))

    def test_against_all_small_tuples(self):
        for net in random_nets(1, 20, most_pipes=5):
            flows = unit_flows(net)
            for row in all_rows(len(net.pipes)):
                self.assertIs(is_flow(net, row), row in flows)
                self.assertIs(is_flow(net, row), keeps(net, row))

    def test_sums_multiples_and_negatives(self):
        dice = random.Random(2)
        for net in random_nets(3, 60, most_pipes=12):
            one, two = random_flow(dice, net, 10 ** 10), random_flow(dice, net, 3)
            for times, more in ((1, 0), (0, 0), (-1, 0), (1, 1), (1, -1), (10 ** 19, -7), (3, -(10 ** 29))):
                flow = tuple([times * here + more * there for here, there in zip(one, two)])
                self.assertIs(is_flow(net, flow), True)
                at = dice.randrange(len(flow))
                self.assertIs(is_flow(net, flow[:at] + (flow[at] + 1,) + flow[at + 1:]), False)

    def test_each_place_counts(self):
        net = Net.read("pipe p a b\npipe q b c\npipe r c d\npipe s d a")
        self.assertIs(is_flow(net, (5, 5, 5, 5)), True)
        for row in ((5, 5, 5, 4), (5, 5, 4, 4), (5, 4, 4, 4), (4, 5, 5, 5), (5, -5, 5, -5), (5, 5, -5, -5)):
            self.assertIs(is_flow(net, row), False)

    def test_what_goes_out_must_come_in(self):
        # What all places keep together is always 0, so one place alone never shows it.
        net = Net.read("pipe p a b\npipe q c d")
        for row in ((1, -1), (1, 1), (-1, 1), (0, 1), (1, 0)):
            self.assertIs(is_flow(net, row), False)
        self.assertIs(is_flow(net, (0, 0)), True)

    def test_values_of_any_kind(self):
        for net in (YARD, Net.read("pipe p a b"), Net.read("pipe p a b\npipe q b a")):
            for value in no_flows((0,) * len(net.pipes)):
                self.assertIs(is_flow(net, value), False)
        for value in no_flows(FLOW) + no_flows((2, 1, 1, 1, 1)):
            self.assertIs(is_flow(YARD, value), False)
        self.assertIs(is_flow(YARD, (2, True, 1, 1, 1)), False)
        self.assertIs(is_flow(YARD, (0, 0, 0, 0, False)), False)

    def test_arguments_by_name(self):
        self.assertIs(check_by_name(self, is_flow, net=YARD, value=FLOW), True)
        self.assertEqual(check_by_name(self, readings_of, net=YARD, flow=FLOW), FLOW)

    def test_no_net(self):
        for value in odd_values() + odd_tuples() + [(), Net, str(YARD), Sum(), Pipe("p", "a", "b"), YARD.pipes]:
            for call in (is_flow, readings_of, wrong_meters, silent_meters):
                check_given(self, NotANet, value, call, value, (0,))
                check_given(self, NotANet, value, call, value, None)


def all_rows(length):
    """All tuples of this length with integers from -1 to 1."""
    rows = [()]
    for _ in range(length):
        rows = [row + (amount,) for row in rows for amount in (-1, 0, 1)]
    return rows


class TestReadingsOf(unittest.TestCase):
    def test_meters_show_the_flows_of_their_pipes(self):
        self.assertEqual(readings_of(YARD, FLOW), FLOW)
        self.assertEqual(readings_of(SEALED, FLOW), (7, 4, 3, 4, 3, 7, 4))
        self.assertEqual(readings_of(YARD - "m1" - "m4", FLOW), (4, 3, 3))
        net = Net(YARD.pipes, (Meter("b", "rout"), Meter("a", "src", sealed=True), Meter("c", "rout", sealed=True)))
        self.assertEqual(readings_of(net, (BIG + 5, BIG, 5, BIG, 5)), (5, BIG + 5, 5))

    def test_no_meters(self):
        self.assertEqual(readings_of(Net(YARD.pipes), FLOW), ())
        self.assertEqual(readings_of(Net.read("pipe p a b"), (0,)), ())

    def test_a_meter_and_a_pipe_of_one_name(self):
        net = Net.read("pipe p a b\npipe q b a\npipe r a b\nmeter q r\nmeter r q\nmeter p p")
        self.assertEqual(readings_of(net, (1, 5, 4)), (4, 5, 1))

    def test_against_all_small_flows(self):
        for net in random_nets(4, 20):
            for flow in unit_flows(net):
                self.assertEqual(readings_of(net, flow), true_readings(net, flow))

    def test_what_is_no_flow(self):
        for value in no_flows(FLOW) + [(7, 4, 3, 4, 4), (FLOW, FLOW)]:
            check_given(self, InvalidFlow, value, readings_of, YARD, value)
            check_given(self, InvalidFlow, value, readings_of, net=YARD, flow=value)


class TestWorlds(unittest.TestCase):
    def check(self, net, flow, readings):
        """The wrong and the silent meters are what they are by their definition."""
        true = dict(zip([meter.name for meter in net.meters], true_readings(net, flow)))
        shown = dict(zip(true, readings))
        wrong = sorted([name for name in true if shown[name] not in (None, true[name])])
        silent = sorted([name for name in true if shown[name] is None])
        self.assertEqual(wrong_meters(net, (flow, readings)), tuple(wrong))
        self.assertEqual(silent_meters(net, (flow, readings)), tuple(silent))
        self.assertEqual(world_counts(net, (flow, readings)), (len(wrong), len(silent)))

    def test_no_faults(self):
        for net in (YARD, SEALED, Net(YARD.pipes), YARD - "m3"):
            self.assertEqual(wrong_meters(net, (FLOW, readings_of(net, FLOW))), ())
            self.assertEqual(silent_meters(net, (FLOW, readings_of(net, FLOW))), ())

    def test_wrong_by_one_by_much_and_silent(self):
        for more in (1, -1, 100, -(10 ** 29), 10 ** 30):
            self.assertEqual(wrong_meters(YARD, (FLOW, (7, 4, 3 + more, 4, 3))), ("m3",))
            self.assertEqual(wrong_meters(YARD, (FLOW, (None, 4, 3, 4 - more, 3 + more))), ("m4", "m5"))
            self.assertEqual(wrong_meters(SEALED, (FLOW, (7, 4, 3, 4, 3, 7 + more, 4))), ("k2",))
        self.assertEqual(silent_meters(YARD, (FLOW, (None, 4, 3, None, 8))), ("m1", "m4"))
        self.assertEqual(silent_meters(YARD, (FLOW, (None,) * 5)), ("m1", "m2", "m3", "m4", "m5"))
        self.assertEqual(wrong_meters(YARD, (FLOW, (None,) * 5)), ())
        self.assertEqual(silent_meters(YARD, (FLOW, (8, 8, 8, 8, 8))), ())

    def test_zero_is_wrong_but_not_silent(self):
        self.assertEqual(wrong_meters(YARD, (FLOW, (0, 4, 3, 4, 3))), ("m1",))
        self.assertEqual(silent_meters(YARD, (FLOW, (0, 4, 3, 4, 3))), ())
        self.assertEqual(wrong_meters(YARD, ((0,) * 5, (0, None, 1, 0, 0))), ("m3",))

    def test_names_are_ascending_and_not_in_the_order_of_the_net(self):
        net = Net(YARD.pipes, tuple([Meter(name, "src") for name in ("z", "a10", "b", "a2", "a")]))
        self.assertEqual(wrong_meters(net, (FLOW, (0, 1, 2, 3, 4))), ("a", "a10", "a2", "b", "z"))
        self.assertEqual(silent_meters(net, (FLOW, (None,) * 5)), ("a", "a10", "a2", "b", "z"))
        self.assertEqual(wrong_meters(net, (FLOW, (0, None, 7, None, 4))), ("a", "z"))
        self.assertEqual(silent_meters(net, (FLOW, (0, None, 7, None, 4))), ("a10", "a2"))

    def test_random_worlds(self):
        dice = random.Random(5)
        for net in random_nets(6, 80, most_meters=12):
            flow = random_flow(dice, net, 10 ** 28)
            spoilt = [
                right if meter.sealed else dice.choice((right, right, None, right + 1, -right, right - 10 ** 29))
                for meter, right in zip(net.meters, true_readings(net, flow))
            ]
            self.check(net, flow, tuple(spoilt))

    def check_no_world(self, net, value):
        check_given(self, InvalidWorld, value, wrong_meters, net, value)
        check_given(self, InvalidWorld, value, silent_meters, net, value)

    def test_no_pair(self):
        for value in odd_values() + odd_tuples() + [
            (), (FLOW,), (FLOW, FLOW, ()), [FLOW, FLOW], FLOW, (FLOW, FLOW, FLOW), {0: FLOW, 1: FLOW}, (FLOW + FLOW),
        ]:
            self.check_no_world(YARD, value)

    def test_wrong_flow(self):
        for value in no_flows(FLOW) + [(7, 4, 3, 4, 4), (8, 4, 3, 4, 3)]:
            self.check_no_world(YARD, (value, FLOW))
        self.check_no_world(YARD, (list(FLOW), FLOW))

    def test_readings_of_other_kinds(self):
        for value in odd_values() + odd_tuples() + [
            list(FLOW), (), FLOW[:4], FLOW + (7,), FLOW + (None,), (FLOW,), str(FLOW), nested(tuple, 5),
        ]:
            self.check_no_world(YARD, (FLOW, value))
        for other in ("7", True, False, (7,), [7], b"7", 1j, SameAsAll(), Sour(), Sum()):
            for at in range(5):
                self.check_no_world(YARD, (FLOW, FLOW[:at] + (other,) + FLOW[at + 1:]))
        self.check_no_world(YARD, ((2, 1, 1, 1, 1), (2, 1, 1, 1, True)))

    def test_sealed_meters_neither_silent_nor_wrong(self):
        right = readings_of(SEALED, FLOW)
        for at, meter in enumerate(SEALED.meters):
            for other in (None, right[at] + 1, right[at] - 1, 0, 10 ** 29):
                spoilt = right[:at] + (other,) + right[at + 1:]
                if meter.sealed:
                    self.check_no_world(SEALED, (FLOW, spoilt))
                else:
                    self.check(SEALED, FLOW, spoilt)
        self.check_no_world(Net.read("pipe p a b\nmeter m p sealed"), ((0,), (1,)))
        self.check_no_world(Net.read("pipe p a b\nmeter m p sealed"), ((0,), (False,)))
        self.assertEqual(wrong_meters(Net.read("pipe p a b\nmeter m p"), ((0,), (1,))), ("m",))

    def test_arguments_by_name(self):
        world = (FLOW, (7, 0, 3, None, 3))
        self.assertEqual(check_by_name(self, wrong_meters, net=YARD, world=world), ("m2",))
        self.assertEqual(check_by_name(self, silent_meters, net=YARD, world=world), ("m4",))


if __name__ == "__main__":
    unittest.main()
