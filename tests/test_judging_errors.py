import unittest
from math import comb

from ringvotes.errors import InvalidFaults, InvalidNumber, NotANet, NotARule, TooMany, UnknownName
from ringvotes.judging import alike, fooled, is_right, parting, rows_used
from ringvotes.nets import Meter, Net, Pipe
from ringvotes.rules import Rule
from ringvotes.sums import Sum
from tests.oracles import ALL_FAULTS
from tests.support import check_given, odd_faults, odd_numbers, odd_tuples, odd_values, raised

NET = Net.read("pipe p x y\npipe q y x\nmeter a p\nmeter b p\nmeter c q")
RULE = Rule.read("if a == b go 2\ntell c\ntell a")
FAULTY = (is_right, fooled)
PAIRED = (alike, parting)
BOUNDS = ("wrong", "silent")


def with_meters(many, sealed=0):
    """Two pipes with so many meters, and so many sealed ones more."""
    meters = [Meter(f"m{index}", "pq"[index % 2]) for index in range(many)]
    meters += [Meter(f"s{index}", "qp"[index % 2], sealed=True) for index in range(sealed)]
    return Net((Pipe("p", "x", "y"), Pipe("q", "y", "x")), tuple(meters))


def pairs(many, wrong, silent):
    """How many pairs of sets of wrong and silent meters there are."""
    return sum([
        comb(many, taken) * sum([comb(many - taken, more) for more in range(silent + 1)])
        for taken in range(min(many, wrong) + 1)
    ])


class TestTooMany(unittest.TestCase):
    def check_limit(self, call, *values, **named):
        found = raised(self, TooMany, call, *values, **named)
        self.assertEqual((found.limit, found.limit.__class__), (1000, int))

    def test_exactly_beyond_the_limit(self):
        doubt, tell = Rule.read("doubt"), Rule.read("tell 0")
        beyond = []
        for many in range(13):
            net = with_meters(many, 12 - many)
            for wrong in range(4):
                for silent in range(4):
                    if pairs(many, wrong, silent) > 1000:
                        beyond.append((many, wrong, silent))
                        for rule in (doubt, tell):
                            for call in FAULTY:
                                self.check_limit(call, net, "p", rule, (0, wrong, silent))
                                self.check_limit(call, net, "p", rule, (wrong, wrong, silent))
                            for call in PAIRED:
                                self.check_limit(call, net, rule, rule, wrong=wrong, silent=silent)
                            self.check_limit(rows_used, net, rule, wrong=wrong, silent=silent)
                    else:
                        self.assertFalse(is_right(net, "p", doubt, (0, wrong, silent)))
                        self.assertIsNotNone(fooled(net, "p", tell, (wrong, wrong, silent)))
        self.assertIn((9, 2, 2), beyond)
        self.assertIn((10, 1, 3), beyond)
        self.assertIn((7, 3, 3), beyond)
        for near in ((9, 1, 3), (9, 3, 1), (7, 3, 2), (8, 2, 2), (12, 2, 1), (6, 3, 3)):
            self.assertNotIn(near, beyond)

    def test_all_pairs_at_the_limit(self):
        # 967 pairs are judged, 1423 are not; sealed meters do not count.
        rule = Rule.read("tell m0")
        for wrong, silent in ((1, 3), (3, 1)):
            for sealed in (0, 3):
                net = with_meters(9, sealed)
                self.assertTrue(alike(net, rule, Rule.read("vote 0: m0\ndoubt"), wrong=wrong, silent=silent))
                self.assertIsNone(parting(net, rule, rule, wrong=wrong, silent=silent))
                self.assertEqual(rows_used(net, rule, wrong=wrong, silent=silent), (0,))
                self.assertFalse(is_right(net, "p", rule, (0, wrong, silent)))
            self.check_limit(alike, with_meters(10), rule, rule, wrong=wrong, silent=silent)
        vote = Rule.read("vote 1: s0, s1, s2\ndoubt")
        self.assertTrue(is_right(with_meters(9, 3), "p", vote, (3, 3, 1)))
        self.assertIsNone(fooled(with_meters(8, 4), "p", vote, (2, 2, 2)))
        self.check_limit(is_right, with_meters(9, 3), "p", vote, (2, 2, 2))
        self.check_limit(fooled, with_meters(9, 3), "p", vote, (0, 2, 2))

    def test_healed_does_not_count(self):
        net = with_meters(9)
        for faults in ALL_FAULTS:
            if pairs(9, faults[1], faults[2]) > 1000:
                self.check_limit(is_right, net, "p", RULE.read("doubt"), faults)

    def test_behind_all_other_errors(self):
        net, most = with_meters(12), (0, 3, 3)
        rule, other = Rule.read("doubt"), Rule.read("tell a")
        for call in FAULTY:
            self.assertEqual(raised(self, UnknownName, call, net, "z", rule, most).given, "z")
            self.assertEqual(raised(self, NotARule, call, net, "p", "doubt", most).given, "doubt")
            self.assertEqual(raised(self, UnknownName, call, net, "p", other, most).given, "a")
            self.assertEqual(raised(self, InvalidFaults, call, net, "p", rule, [0, 3, 3]).given, [0, 3, 3])
        for call in PAIRED:
            self.assertEqual(raised(self, NotARule, call, net, rule, 5, wrong=3, silent=3).given, 5)
            self.assertEqual(raised(self, UnknownName, call, net, rule, other, wrong=3, silent=3).given, "a")
            self.assertEqual(raised(self, InvalidNumber, call, net, rule, rule, wrong=4, silent=3).given, 4)
            self.assertEqual(raised(self, InvalidNumber, call, net, rule, rule, wrong=3, silent=-1).given, -1)
        self.assertEqual(raised(self, UnknownName, rows_used, net, other, wrong=3, silent=3).given, "a")
        self.assertIs(raised(self, InvalidNumber, rows_used, net, rule, wrong=3, silent=True).given, True)


class TestErrors(unittest.TestCase):
    def test_no_net(self):
        for value in odd_values() + odd_tuples() + [(), Net, str(NET), RULE, Sum()]:
            for call in FAULTY:
                check_given(self, NotANet, value, call, value, "p", RULE, (0, 0, 0))
                check_given(self, NotANet, value, call, value, value, value, value)
            for call in PAIRED:
                check_given(self, NotANet, value, call, value, RULE, RULE)
                check_given(self, NotANet, value, call, value, value, value, wrong=value, silent=value)
            check_given(self, NotANet, value, rows_used, value, RULE)
            check_given(self, NotANet, value, rows_used, net=value, rule=value, silent=9)

    def test_no_pipe_of_the_net(self):
        for value in odd_values() + odd_tuples() + [(), "m1", "a", "x", "pq", NET.pipes[0], NET]:
            for call in FAULTY:
                check_given(self, UnknownName, value, call, NET, value, RULE, (0, 0, 0))
                check_given(self, UnknownName, value, call, net=NET, pipe=value, rule=None, faults=None)

    def test_no_rule(self):
        for value in odd_values() + odd_tuples() + [(), ("doubt",), "doubt", Rule, NET, Sum()]:
            for call in FAULTY:
                check_given(self, NotARule, value, call, NET, "p", value, (0, 0, 0))
                check_given(self, NotARule, value, call, NET, "q", value, value)
            for call in PAIRED:
                check_given(self, NotARule, value, call, NET, value, RULE)
                check_given(self, NotARule, value, call, NET, RULE, value)
                check_given(self, NotARule, value, call, NET, value, 7, wrong=9, silent=9)
                check_given(self, NotARule, value, call, NET, RULE, value, wrong=9, silent=9)
            check_given(self, NotARule, value, rows_used, NET, value)
            check_given(self, NotARule, value, rows_used, NET, value, wrong=None, silent=None)

    def test_meters_that_the_net_does_not_have(self):
        for text, name in (("tell d", "d"), ("tell a + z", "z"), ("if e == d go 1\ntell c", "d"), ("doubt\ntell p", "p"),
                           ("vote 0: a, aa\nvote 1: b + bb, a1\ndoubt", "a1")):
            rule = Rule.read(text)
            for call in FAULTY:
                self.assertEqual(raised(self, UnknownName, call, NET, "p", rule, (0, 0, 0)).given, name)
                self.assertEqual(raised(self, UnknownName, call, NET, "p", rule, None).given, name)
            for call in PAIRED:
                self.assertEqual(raised(self, UnknownName, call, NET, rule, RULE).given, name)
                self.assertEqual(raised(self, UnknownName, call, NET, RULE, rule, silent=8).given, name)
                self.assertEqual(raised(self, UnknownName, call, NET, rule, None, silent=8).given, name)
            self.assertEqual(raised(self, UnknownName, rows_used, NET, rule, wrong=4).given, name)

    def test_no_faults(self):
        for value in odd_faults():
            for call in FAULTY:
                check_given(self, InvalidFaults, value, call, NET, "p", RULE, value)
                check_given(self, InvalidFaults, value, call, rule=RULE, faults=value, pipe="q", net=NET)

    def test_no_number(self):
        for value in odd_numbers():
            for call in PAIRED:
                for name in BOUNDS:
                    check_given(self, InvalidNumber, value, call, NET, RULE, RULE, **{name: value})
                check_given(self, InvalidNumber, value, call, NET, RULE, RULE, wrong=value, silent="0")
                check_given(self, InvalidNumber, value, call, NET, RULE, RULE, silent=value, wrong=3)
            for name in BOUNDS:
                check_given(self, InvalidNumber, value, rows_used, NET, RULE, **{name: value})
            check_given(self, InvalidNumber, value, rows_used, NET, RULE, silent="0", wrong=value)

    def test_bounds_by_name_only(self):
        for call in PAIRED:
            self.assertRaises(TypeError, call, NET, RULE, RULE, 1)
            self.assertRaises(TypeError, call, NET, RULE, RULE, 1, 1)
        self.assertRaises(TypeError, rows_used, NET, RULE, 1)
        self.assertEqual(rows_used(NET, RULE, wrong=1, silent=1), (0, 1, 2))

    def test_arguments_are_left_as_they_are(self):
        text, rows = str(NET), RULE.rows
        for call in FAULTY:
            call(NET, "p", RULE, (0, 2, 1))
        for call in PAIRED:
            call(NET, RULE, Rule.read("tell a"), wrong=2, silent=1)
        rows_used(NET, RULE, wrong=2, silent=1)
        self.assertEqual((str(NET), RULE.rows), (text, rows))


if __name__ == "__main__":
    unittest.main()
