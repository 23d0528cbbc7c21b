import unittest
from itertools import product

from ringvotes.errors import (
    InvalidEnd,
    InvalidFlag,
    InvalidMeters,
    InvalidName,
    InvalidPipes,
    NotAMeter,
    UnknownName,
)
from ringvotes.nets import Meter, Net, Pipe
from ringvotes.sums import Sum
from tests.support import SameAsAll, Sour, check_given, check_index, odd_tuples, odd_values, raised

NAMES = ("a", "z", "a0", "m1", "a9z0", "abcdefgh", "z9999999", "pipe", "sealed")


def other_values():
    """Values that are no name, no Pipe, no Meter and no Net."""
    return odd_values() + odd_tuples() + [(), Sum.of("m1"), Pipe, Meter, Net]


def pipes(many):
    """Pipes p0, p1, .. between two places."""
    return tuple(Pipe(f"p{index}", "a", "b") for index in range(many))


def meters(many):
    """Meters m0, m1, .. at the pipe p0."""
    return tuple(Meter(f"m{index}", "p0") for index in range(many))


class TestPipe(unittest.TestCase):
    def test_properties(self):
        for name, start, end in (("p", "a", "b"), ("abcdefgh", "z9", "a0"), ("same", "same", "other")):
            pipe = Pipe(name, start, end)
            self.assertEqual((pipe.name, pipe.start, pipe.end), (name, start, end))
            pipe = Pipe(end=end, start=start, name=name)
            self.assertEqual((pipe.name, pipe.start, pipe.end), (name, start, end))

    def test_every_name_is_taken(self):
        for name in NAMES:
            self.assertEqual(Pipe(name, "x", "y").name, name)
            self.assertEqual(Pipe("p", name, "y").start, name)
            self.assertEqual(Pipe("p", "x", name).end, name)

    def test_what_is_no_name(self):
        for value in other_values() + [Pipe("p", "a", "b"), Meter("m", "p")]:
            check_given(self, InvalidName, value, Pipe, value, "a", "b")
            check_given(self, InvalidName, value, Pipe, "p", value, "b")
            check_given(self, InvalidName, value, Pipe, "p", "a", value)
            check_given(self, InvalidName, value, Pipe, name="p", start="a", end=value)

    def test_the_first_wrong_value_is_named(self):
        check_given(self, InvalidName, "A", Pipe, "A", "B", "C")
        check_given(self, InvalidName, "B", Pipe, "p", "B", "C")
        check_given(self, InvalidName, "A", Pipe, "A", "b", "b")
        self.assertEqual(raised(self, InvalidName, Pipe, 1, None, None).given, 1)
        self.assertIsNone(raised(self, InvalidName, Pipe, "p", None, None).given)
        self.assertEqual(raised(self, InvalidName, Pipe, "p", "B", "B").given, "B")

    def test_end_equal_to_start(self):
        for name in NAMES:
            self.assertEqual(raised(self, InvalidEnd, Pipe, "p", name, name).given, name)
        check_given(self, InvalidEnd, "a", Pipe, "a", "a", "a")

    def test_equality(self):
        self.assertTrue(Pipe("p", "a", "b") == Pipe("p", "a", "b"))
        self.assertFalse(Pipe("p", "a", "b") != Pipe("p", "a", "b"))
        for other in (("q", "a", "b"), ("p", "b", "a"), ("p", "c", "b"), ("p", "a", "c")):
            self.assertFalse(Pipe("p", "a", "b") == Pipe(*other))
            self.assertTrue(Pipe("p", "a", "b") != Pipe(*other))

    def test_no_pipe_is_equal_to_any_other_value(self):
        pipe = Pipe("p", "a", "b")
        for value in other_values() + ["p", ("p", "a", "b"), Meter("p", "a"), Net((pipe,)), "pipe p a b"]:
            self.assertIs(pipe == value, False)
            self.assertIs(pipe != value, True)

    def test_true_and_unchangeable(self):
        pipe = Pipe("p", "a", "b")
        self.assertIs(bool(pipe), True)
        for name in ("name", "start", "end"):
            self.assertRaises(AttributeError, setattr, pipe, name, "c")
        self.assertEqual(pipe, Pipe("p", "a", "b"))


class TestMeter(unittest.TestCase):
    def test_properties(self):
        for sealed in (True, False):
            meter = Meter("m", "p", sealed=sealed)
            self.assertEqual((meter.name, meter.at), ("m", "p"))
            self.assertIs(meter.sealed, sealed)
            meter = Meter(sealed=sealed, at="p", name="m")
            self.assertEqual((meter.name, meter.at), ("m", "p"))
            self.assertIs(meter.sealed, sealed)
        self.assertIs(Meter("m", "p").sealed, False)

    def test_every_name_is_taken(self):
        for name in NAMES:
            self.assertEqual(Meter(name, "p").name, name)
            self.assertEqual(Meter("m", name).at, name)
            self.assertEqual(Meter(name, name).at, name)

    def test_sealed_is_passed_by_name_only(self):
        self.assertRaises(TypeError, Meter, "m", "p", True)

    def test_what_is_no_name(self):
        for value in other_values() + [Pipe("p", "a", "b"), Meter("m", "p")]:
            check_given(self, InvalidName, value, Meter, value, "p")
            check_given(self, InvalidName, value, Meter, "m", value)
            check_given(self, InvalidName, value, Meter, name="m", at=value, sealed=None)

    def test_what_is_no_flag(self):
        values = [value for value in other_values() if value is not True and value is not False]
        self.assertEqual([value for value in values if value.__class__ is int][:2], [0, 1])
        for value in values + ["sealed", "True"]:
            check_given(self, InvalidFlag, value, Meter, "m", "p", sealed=value)

    def test_the_first_wrong_value_is_named(self):
        check_given(self, InvalidName, "A", Meter, "A", "B", sealed=1)
        check_given(self, InvalidName, "B", Meter, "m", "B", sealed=1)
        check_given(self, InvalidFlag, 1, Meter, "m", "m", sealed=1)

    def test_equality(self):
        for sealed in (True, False):
            meter = Meter("m", "p", sealed=sealed)
            self.assertTrue(meter == Meter("m", "p", sealed=sealed))
            self.assertFalse(meter != Meter("m", "p", sealed=sealed))
            others = Meter("n", "p", sealed=sealed), Meter("m", "q", sealed=sealed), Meter("m", "p", sealed=not sealed)
            for other in others:
                self.assertFalse(meter == other)
                self.assertTrue(meter != other)
        self.assertTrue(Meter("m", "p") == Meter("m", "p", sealed=False))

    def test_no_meter_is_equal_to_any_other_value(self):
        meter = Meter("m", "p")
        for value in other_values() + ["m", ("m", "p", False), Pipe("m", "p", "q"), "meter m p"]:
            self.assertIs(meter == value, False)
            self.assertIs(meter != value, True)

    def test_true_and_unchangeable(self):
        meter = Meter("m", "p")
        self.assertIs(bool(meter), True)
        for name in ("name", "at", "sealed"):
            self.assertRaises(AttributeError, setattr, meter, name, "c")
        self.assertEqual(meter, Meter("m", "p"))


class TestMaking(unittest.TestCase):
    def test_one_to_twelve_pipes_and_none_to_twelve_meters(self):
        for many, more in product(range(1, 13), range(13)):
            net = Net(pipes(many), meters(more))
            self.assertEqual((net.pipes, net.meters), (pipes(many), meters(more)))
            self.assertEqual(len(net), many)
            self.assertEqual(repr(net), f"Net of {many} pipes, {more} meters")

    def test_by_name_and_without_meters(self):
        net = Net(meters=meters(2), pipes=pipes(3))
        self.assertEqual((net.pipes, net.meters), (pipes(3), meters(2)))
        self.assertEqual(Net(pipes(3)).meters, ())
        self.assertEqual(Net(pipes=pipes(1)).pipes, pipes(1))

    def test_pipes_and_meters_are_as_they_were_passed(self):
        given, more = pipes(3), meters(3)[::-1]
        net = Net(given, more)
        self.assertEqual(net.pipes.__class__, tuple)
        self.assertTrue(all(one is two for one, two in zip(net.pipes, given)))
        self.assertTrue(all(one is two for one, two in zip(net.meters, more)))

    def test_a_pipe_and_a_meter_of_one_name(self):
        net = Net((Pipe("x", "a", "b"), Pipe("y", "b", "a")), (Meter("y", "x"), Meter("x", "x", sealed=True)))
        self.assertEqual([net.pipe("x"), net.meter("x")], [Pipe("x", "a", "b"), Meter("x", "x", sealed=True)])

    def test_several_pipes_at_the_same_places_and_several_meters_at_a_pipe(self):
        net = Net((Pipe("p", "a", "b"), Pipe("q", "a", "b"), Pipe("r", "b", "a")), (Meter("m", "q"), Meter("n", "q")))
        self.assertEqual((len(net), len(net.meters)), (3, 2))

    def test_no_pipes(self):
        check_index(self, InvalidPipes, None, Net, ())
        check_index(self, InvalidPipes, None, Net, (), meters(1))

    def test_no_tuple_of_pipes(self):
        for value in odd_values() + [list(pipes(2)), pipes(1)[0], Net(pipes(1)), iter(pipes(1)), {}, "pipe p a b"]:
            check_index(self, InvalidPipes, None, Net, value)
            check_index(self, InvalidPipes, None, Net, value, None)

    def test_elements_that_are_no_pipes(self):
        for value in other_values() + [Meter("m", "p0"), Net(pipes(1)), ("p", "a", "b"), "p"]:
            check_index(self, InvalidPipes, 0, Net, (value,))
            check_index(self, InvalidPipes, 2, Net, pipes(2) + (value,) + pipes(1))

    def test_pipes_of_equal_names(self):
        for first, second in ((0, 1), (0, 3), (2, 3)):
            row = list(pipes(5))
            row[second] = Pipe(row[first].name, "c", "d")
            check_index(self, InvalidPipes, second, Net, tuple(row))

    def test_the_thirteenth_pipe(self):
        check_index(self, InvalidPipes, 12, Net, pipes(13))
        check_index(self, InvalidPipes, 12, Net, pipes(20))
        check_index(self, InvalidPipes, 12, Net, pipes(12) + (None,))
        check_index(self, InvalidPipes, 3, Net, pipes(3) + (None,) + pipes(20)[3:])
        check_index(self, InvalidPipes, 11, Net, pipes(11) + pipes(20))

    def test_no_tuple_of_meters(self):
        for value in odd_values() + [list(meters(2)), meters(1)[0], Net(pipes(1)), iter(meters(1)), {}, "meter m p0"]:
            check_index(self, InvalidMeters, None, Net, pipes(1), value)
            check_index(self, InvalidMeters, None, Net, pipes=pipes(1), meters=value)

    def test_elements_that_are_no_meters(self):
        for value in other_values() + [Pipe("m", "p0", "q"), Net(pipes(1)), ("m", "p0"), "m0"]:
            check_index(self, InvalidMeters, 0, Net, pipes(1), (value,))
            check_index(self, InvalidMeters, 2, Net, pipes(1), meters(2) + (value,) + meters(1))

    def test_meters_of_equal_names(self):
        for first, second in ((0, 1), (0, 3), (2, 3)):
            row = list(meters(5))
            row[second] = Meter(row[first].name, "p1", sealed=True)
            check_index(self, InvalidMeters, second, Net, pipes(2), tuple(row))

    def test_meters_at_pipes_that_are_not_there(self):
        for at in ("p2", "p", "m0", "a", "b"):
            check_index(self, InvalidMeters, 0, Net, pipes(2), (Meter("m", at),))
            check_index(self, InvalidMeters, 2, Net, pipes(2), meters(2) + (Meter("m", at), Meter("m0", "p0")))

    def test_the_thirteenth_meter(self):
        check_index(self, InvalidMeters, 12, Net, pipes(1), meters(13))
        check_index(self, InvalidMeters, 12, Net, pipes(1), meters(20))
        check_index(self, InvalidMeters, 12, Net, pipes(1), meters(12) + (Meter("m", "p5"),))
        check_index(self, InvalidMeters, 3, Net, pipes(1), meters(3) + (Meter("m", "p5"),) + meters(20)[3:])
        check_index(self, InvalidMeters, 11, Net, pipes(1), meters(11) + meters(20))

    def test_pipes_are_checked_before_meters(self):
        check_index(self, InvalidPipes, 1, Net, pipes(1) * 2, None)
        check_index(self, InvalidPipes, 12, Net, pipes(13), (None,))
        check_index(self, InvalidPipes, 1, Net, (pipes(1)[0], Sour()), (Sour(),))


class TestAsking(unittest.TestCase):
    def setUp(self):
        self.parts = (Pipe("src", "o", "b"), Pipe("p", "c1", "a"), Pipe("q", "b", "a"))
        self.stand = (Meter("m2", "q", sealed=True), Meter("m1", "src"), Meter("src", "q"))
        self.net = Net(self.parts, self.stand)

    def test_places(self):
        self.assertEqual(self.net.places, ("a", "b", "c1", "o"))
        self.assertEqual(Net((Pipe("p", "b", "a"),)).places, ("a", "b"))
        row = (Pipe("p", "a10", "a9"), Pipe("q", "aa", "z"), Pipe("r", "a", "z"))
        self.assertEqual(Net(row).places, ("a", "a10", "a9", "aa", "z"))
        self.assertIs(self.net.places.__class__, tuple)

    def test_length_and_representation(self):
        self.assertEqual(len(self.net), 3)
        self.assertEqual(repr(self.net), "Net of 3 pipes, 3 meters")
        self.assertEqual(repr(Net(self.parts[:1], (Meter("m", "src"),))), "Net of 1 pipes, 1 meters")
        self.assertEqual(repr(Net(self.parts[:1])), "Net of 1 pipes, 0 meters")

    def test_text(self):
        lines = ("pipe src o b", "pipe p c1 a", "pipe q b a", "meter m2 q sealed", "meter m1 src", "meter src q")
        self.assertEqual(str(self.net), "\n".join(lines))
        self.assertEqual(str(Net(self.parts[:1])), "pipe src o b")

    def test_in(self):
        found = [name in self.net for name in ("m1", "m2", "src", "p", "q", "o", "m", "m3")]
        self.assertEqual(found, [True, True, True, False, False, False, False, False])
        self.assertFalse("m1" in Net(self.parts))

    def test_in_with_any_value(self):
        for value in other_values() + list(self.stand) + list(self.parts) + [self.net, "M1", "m1 "]:
            self.assertIs(value in self.net, False)
            self.assertIs(value not in self.net, True)

    def test_pipe(self):
        for pipe in self.parts:
            self.assertIs(self.net.pipe(pipe.name), pipe)
            self.assertIs(self.net.pipe(name=pipe.name), pipe)

    def test_meter(self):
        for meter in self.stand:
            self.assertIs(self.net.meter(meter.name), meter)
            self.assertIs(self.net.meter(name=meter.name), meter)

    def test_unknown_names(self):
        for value in other_values() + list(self.stand) + list(self.parts) + [self.net, "m", "a", "o", "sealed"]:
            check_given(self, UnknownName, value, self.net.pipe, value)
            check_given(self, UnknownName, value, self.net.meter, value)
            check_given(self, UnknownName, value, self.net.meter, name=value)
        check_given(self, UnknownName, "m1", self.net.pipe, "m1")
        check_given(self, UnknownName, "p", self.net.meter, "p")

    def test_every_net_is_true_and_unchangeable(self):
        self.assertIs(bool(self.net), True)
        for name in ("pipes", "meters", "places"):
            self.assertRaises(AttributeError, setattr, self.net, name, ())
        self.assertEqual(self.net, Net(self.parts, self.stand))

    def test_equality(self):
        self.assertTrue(self.net == Net(self.parts, self.stand))
        self.assertFalse(self.net != Net(self.parts, self.stand))
        first, second, third = self.stand
        for other in (
            Net(self.parts[::-1], self.stand), Net(self.parts, self.stand[::-1]), Net(self.parts),
            Net(self.parts, (first, third, second)), Net(self.parts, self.stand[:2]),
            Net(self.parts + pipes(1), self.stand), Net(self.parts, self.stand + (Meter("m3", "p"),)),
            Net(self.parts, (Meter("m2", "q"), second, third)), Net(self.parts, (first, Meter("m1", "p"), third)),
            Net(self.parts[:2] + (Pipe("q", "a", "b"),), self.stand),
        ):
            self.assertFalse(self.net == other)
            self.assertTrue(self.net != other)

    def test_no_net_is_equal_to_any_other_value(self):
        for value in other_values() + [str(self.net), self.parts, (self.parts, self.stand), self.parts[0]]:
            self.assertIs(self.net == value, False)
            self.assertIs(self.net != value, True)

    def test_a_net_in_a_tuple(self):
        self.assertTrue(Net(self.parts, self.stand) in (1, self.net))
        self.assertFalse(Net(self.parts) in (1, self.net))


class TestPlus(unittest.TestCase):
    def setUp(self):
        self.net = Net(pipes(3), meters(3))

    def tearDown(self):
        self.assertEqual((self.net.pipes, self.net.meters), (pipes(3), meters(3)))

    def test_behind_the_others(self):
        for meter in (Meter("a", "p2"), Meter("p0", "p0"), Meter("z", "p1", sealed=True)):
            self.assertEqual((self.net + meter).meters, meters(3) + (meter,))
            self.assertEqual((self.net + meter).pipes, pipes(3))
        self.assertEqual((Net(pipes(1)) + meters(1)[0]).meters, meters(1))

    def test_in_the_place_of_the_one_with_its_name(self):
        for index in range(3):
            for meter in (Meter(f"m{index}", "p2"), Meter(f"m{index}", "p0", sealed=True), meters(3)[index]):
                expected = meters(3)[:index] + (meter,) + meters(3)[index + 1:]
                self.assertEqual((self.net + meter).meters, expected)
                self.assertEqual(self.net + meter, Net(pipes(3), expected))

    def test_gives_a_net(self):
        self.assertIs((self.net + Meter("m", "p0")).__class__, Net)

    def test_up_to_twelve(self):
        net = Net(pipes(1))
        for meter in meters(12):
            net = net + meter
        self.assertEqual(net, Net(pipes(1), meters(12)))
        check_index(self, InvalidMeters, 12, lambda: net + Meter("a", "p0"))
        check_index(self, InvalidMeters, 12, lambda: net + Meter("a", "p1"))
        for index in range(12):
            sealed = Meter(f"m{index}", "p0", sealed=True)
            self.assertEqual((net + sealed).meters, meters(12)[:index] + (sealed,) + meters(12)[index + 1:])
            check_index(self, InvalidMeters, index, lambda: net + Meter(f"m{index}", "p1"))

    def test_pipes_that_are_not_there(self):
        for at in ("p3", "m0", "a", "p"):
            check_index(self, InvalidMeters, 3, lambda: self.net + Meter("m3", at))
            check_index(self, InvalidMeters, 0, lambda: Net(pipes(2)) + Meter("m3", at))
            for index in range(3):
                check_index(self, InvalidMeters, index, lambda: self.net + Meter(f"m{index}", at))

    def test_what_is_no_meter(self):
        for value in other_values() + ["m1", Pipe("m", "p0", "q"), self.net, meters(1), ("m", "p0"), "meter m p0"]:
            check_given(self, NotAMeter, value, lambda given: self.net + given, value)


class TestMinus(unittest.TestCase):
    def setUp(self):
        self.net = Net(pipes(3), meters(3))

    def tearDown(self):
        self.assertEqual((self.net.pipes, self.net.meters), (pipes(3), meters(3)))

    def test_without_a_meter(self):
        for index in range(3):
            less = self.net - f"m{index}"
            self.assertEqual(less, Net(pipes(3), meters(3)[:index] + meters(3)[index + 1:]))
            self.assertIs(less.__class__, Net)
        self.assertEqual((self.net - "m1" - "m0" - "m2").meters, ())

    def test_a_meter_put_back_stands_last(self):
        net = self.net - "m0" + Meter("m0", "p0")
        self.assertEqual([meter.name for meter in net.meters], ["m1", "m2", "m0"])

    def test_unknown_names(self):
        values = other_values() + ["m3", "p0", "a", "", self.net, SameAsAll(), Sour()] + list(meters(3)) + [("m0",)]
        for value in values:
            check_given(self, UnknownName, value, lambda given: self.net - given, value)
            check_given(self, UnknownName, value, lambda given: Net(pipes(1)) - given, value)


if __name__ == "__main__":
    unittest.main()
