import random
import unittest

from ringvotes.errors import InvalidReadings, NotANet, NotASum, UnknownName
from ringvotes.nets import Meter, Net
from ringvotes.sums import Sum
from ringvotes.worlds import value_of
from tests.oracles import expected_value, random_nets
from tests.support import SameAsAll, Sour, check_by_name, check_given, check_index, odd_tuples, odd_values, raised

NET = Net.read("pipe p a b\npipe q b a\nmeter m1 p\nmeter m2 q sealed\nmeter m3 q\nmeter m4 p sealed")
SEEN = (5, 7, None, 0)
BIG = 10 ** 30 - 1


def no_readings():
    """Values that are no tuples with four elements."""
    return odd_values() + odd_tuples() + [
        (), (1,), (1, 2, 3), (1, 2, 3, 4, 5), [1, 2, 3, 4], "1234", {0: 1, 1: 2, 2: 3, 3: 4}, ((1, 2, 3, 4),),
        iter(SEEN),
    ]


class TestValueOf(unittest.TestCase):
    def test_values(self):
        for text, value in (
            ("m1", 5), ("-m1", -5), ("3*m1 - 2*m2", 1), ("m4", 0), ("m1 + m2 + m4", 12), ("0", 0), ("100*m4", 0),
            (f"{BIG}*m1", 5 * BIG), ("m1 - 7*m4", 5),
        ):
            found = value_of(NET, Sum.read(text), SEEN)
            self.assertEqual(found, value)
            self.assertIs(found.__class__, int)

    def test_silent_meters_with_and_without_coefficient(self):
        for text in ("m3", "-m3", "m1 + m3", "m1 + 2*m2 - m3 + m4", f"{BIG}*m3"):
            self.assertIsNone(value_of(NET, Sum.read(text), SEEN))
        self.assertEqual(value_of(NET, Sum.read("m1 + m3") - Sum.of("m3"), SEEN), 5)
        self.assertEqual(value_of(NET, Sum((("m3", 1), ("m3", -1))), SEEN), 0)
        self.assertEqual(value_of(NET, Sum.read("m3"), (None, 0, 4, 0)), 4)
        self.assertIsNone(value_of(NET, Sum.read("m1"), (None, 0, 4, 0)))
        self.assertIsNone(value_of(NET, Sum.read("m1 + m3"), (None, 0, None, 0)))

    def test_the_sum_zero(self):
        self.assertEqual(value_of(NET, Sum(), (None, 0, None, 0)), 0)
        self.assertEqual(value_of(Net.read("pipe p a b"), Sum(), ()), 0)

    def test_readings_need_no_world(self):
        # Sealed meters may show anything here, and no flow has these readings.
        self.assertEqual(value_of(NET, Sum.read("m2 + m4"), (0, 3, 0, 9)), 12)
        self.assertEqual(value_of(NET, Sum.read("m2 - m4"), (None, BIG, None, -BIG)), 2 * BIG)

    def test_random_values(self):
        dice = random.Random(7)
        for net in random_nets(8, 100, most_meters=12):
            names = [meter.name for meter in net.meters]
            terms = tuple([(name, dice.choice((0, 0, 1, -1, 5, -BIG))) for name in names])
            seen = tuple([
                dice.randint(-BIG, BIG) if meter.sealed else dice.choice((None, 0, 3, -BIG)) for meter in net.meters
            ])
            value = expected_value(dict(zip(names, seen)), [term for term in terms if term[1] != 0])
            self.assertEqual(value_of(net, Sum(terms), seen), value)

    def test_arguments_by_name(self):
        self.assertEqual(check_by_name(self, value_of, net=NET, total=Sum.read("2*m1"), readings=SEEN), 10)

    def test_no_net(self):
        for value in odd_values() + odd_tuples() + [(), Net, str(NET), Sum()]:
            check_given(self, NotANet, value, value_of, value, Sum(), ())
            check_given(self, NotANet, value, value_of, value, "m1", None)

    def test_no_sum(self):
        for value in odd_values() + odd_tuples() + [(), "m1", (("m1", 1),), Sum, NET, Sum().terms]:
            check_given(self, NotASum, value, value_of, NET, value, SEEN)
            check_given(self, NotASum, value, value_of, NET, value, None)

    def test_meters_that_the_net_does_not_have(self):
        for text, name in (("m5", "m5"), ("m1 + m5", "m5"), ("a - m1 + z", "a"), ("m1 + z", "z"), ("p + q", "p"),
                           ("m1 + m10 + m2 + m20", "m10"), ("m11 + m5", "m11"), ("-m9", "m9"),
                           ("m1 + 7*m7 + m8", "m7")):
            self.assertEqual(raised(self, UnknownName, value_of, NET, Sum.read(text), SEEN).given, name)
            self.assertEqual(raised(self, UnknownName, value_of, NET, Sum.read(text), [1]).given, name)
        self.assertEqual(raised(self, UnknownName, value_of, NET - "m1", Sum.read("m1"), (1, 2, 3)).given, "m1")
        # A coefficient of 0 asks for no meter.
        self.assertEqual(value_of(NET, Sum((("m9", 0), ("m1", 1))), SEEN), 5)

    def test_another_number_of_readings(self):
        for value in no_readings():
            check_index(self, InvalidReadings, None, value_of, NET, Sum.of("m1"), value)
        check_index(self, InvalidReadings, None, value_of, NET, Sum(), ("x", None, True))
        check_index(self, InvalidReadings, None, value_of, Net.read("pipe p a b"), Sum(), (1,))
        check_index(self, InvalidReadings, None, value_of, Net.read("pipe p a b"), Sum(), [])

    def test_spoilt_readings(self):
        for other in ("5", True, False, (5,), [5], b"", 1j, "", SameAsAll(), Sour(), Sum(), NET, object()):
            for at in range(4):
                spoilt = SEEN[:at] + (other,) + SEEN[at + 1:]
                check_index(self, InvalidReadings, at, value_of, NET, Sum.of("m1"), spoilt)
                check_index(self, InvalidReadings, at, value_of, net=NET, total=Sum(), readings=spoilt)
            check_index(self, InvalidReadings, 0, value_of, NET, Sum(), (other,) * 4)
            check_index(self, InvalidReadings, 1, value_of, NET, Sum(), (5, None, other, other))
            check_index(self, InvalidReadings, 2, value_of, NET, Sum(), (5, 5, other, None))

    def test_sealed_meters_are_never_silent(self):
        check_index(self, InvalidReadings, 1, value_of, NET, Sum.of("m1"), (5, None, None, 0))
        check_index(self, InvalidReadings, 3, value_of, NET, Sum.of("m1"), (5, 0, None, None))
        check_index(self, InvalidReadings, 1, value_of, NET, Sum.of("m1"), (None,) * 4)
        net = Net.read("pipe p a b") + Meter("m", "p", sealed=True)
        check_index(self, InvalidReadings, 0, value_of, net, Sum(), (None,))

    def test_the_order_of_the_checks(self):
        check_given(self, NotANet, 3, value_of, 3, Sum.read("z"), None)
        given = Sum.read("z")
        self.assertEqual(raised(self, NotANet, value_of, given, given, None).given, given)
        check_given(self, NotASum, None, value_of, NET, None, None)
        self.assertEqual(raised(self, UnknownName, value_of, NET, given, None).given, "z")
        check_index(self, InvalidReadings, None, value_of, NET, Sum(), (True,))


if __name__ == "__main__":
    unittest.main()
