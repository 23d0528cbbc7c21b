import random
import unittest
from itertools import product

from ringvotes.errors import InvalidReadings, NotANet, NotARule, UnknownName
from ringvotes.nets import Meter, Net, Pipe
from ringvotes.rules import Rule, outcome
from ringvotes.sums import Sum
from tests.oracles import expected_outcome
from tests.support import SameAsAll, Sour, check_by_name, check_given, check_index, odd_tuples, odd_values, raised

NET = Net((Pipe("p", "x", "y"), Pipe("q", "y", "x")), tuple([Meter(name, "p") for name in "abcdef"]))
BIG = 10 ** 39 + 7


def told(text, *readings):
    """The outcome of the rule with this text for readings of a, b, c, .., the missing ones being 0."""
    return outcome(NET, Rule.read(text), readings + (0,) * (6 - len(readings)))


def random_sum(dice):
    """The text of a sum of some of the meters."""
    names = dice.sample("abcdef", dice.choice((0, 1, 1, 2)))
    return str(Sum(tuple([(name, dice.choice((-1, 1, 1, 2))) for name in names])))


def random_rule(dice):
    """The rows of a rule with one to eight rows of all kinds."""
    many = dice.randint(1, 8)
    rows = []
    for index in range(many - 1):
        kind = dice.choice(("if", "if", "if", "vote", "vote", "tell"))
        if kind == "if":
            rows.append(f"if {random_sum(dice)} == {random_sum(dice)} go {dice.randint(index + 1, many - 1)}")
        elif kind == "vote":
            sums = ", ".join([random_sum(dice) for _ in range(dice.randint(1, 5))])
            rows.append(f"vote {dice.randint(0, 3)}: {sums}")
        else:
            rows.append(f"tell {random_sum(dice)}" if dice.randrange(3) == 0 else "vote 0: a, b, c")
    return tuple(rows) + (dice.choice((f"tell {random_sum(dice)}", "doubt")),)


class TestOutcome(unittest.TestCase):
    def test_tell_and_doubt(self):
        self.assertEqual(told("tell a", 5), 5)
        self.assertEqual(told("tell 2*a - b", 5, 3), 7)
        self.assertEqual(told("tell 0", None), 0)
        self.assertIsNone(told("tell a", None, 4))
        self.assertIsNone(told("tell a - b", 4, None))
        self.assertEqual(told("tell a", 5, None), 5)
        self.assertIsNone(told("doubt", 5))
        self.assertEqual(told("tell a\ntell b", 0, 4), 0)
        self.assertIsNone(told("tell a\ntell b", None, 4))
        self.assertIsNone(told("doubt\ntell b", 1, 4))
        self.assertEqual(told("tell b\ndoubt", 1, 4), 4)

    def test_outcomes_are_plain(self):
        self.assertIs(told("tell a", 0).__class__, int)
        self.assertIs(told("vote 0: a\ndoubt", 0).__class__, int)

    def test_if_that_jumps_and_does_not(self):
        text = "if a == b go 2\ntell c\ntell d"
        self.assertEqual(told(text, 1, 1, 3, 4), 4)
        self.assertEqual(told(text, 1, 2, 3, 4), 3)
        self.assertEqual(told(text, 1, -1, 3, 4), 3)
        self.assertEqual(told("if a == b + c go 2\ntell d\ntell a", 7, 4, 3, 9), 7)
        self.assertEqual(told("if a == b + c go 2\ntell d\ntell a", 7, 4, 4, 9), 9)
        self.assertEqual(told("if 0 == 0 go 2\ntell c\ntell d", 1, 2, 3, 4), 4)
        self.assertEqual(told("if 0 == a go 2\ntell c\ntell d", 0, 2, 3, 4), 4)
        self.assertEqual(told("if a == a go 1\ntell c", 0, 2, 3), 3)

    def test_if_with_silent_sums(self):
        text = "if a == b go 2\ntell c\ntell d"
        self.assertEqual(told(text, None, None, 3, 4), 3)
        self.assertEqual(told(text, None, 1, 3, 4), 3)
        self.assertEqual(told(text, 1, None, 3, 4), 3)
        self.assertEqual(told("if a == a go 2\ntell c\ntell d", None, 1, 3, 4), 3)
        self.assertEqual(told("if a == b go 2\ntell c\ntell d", 1, 1, None, 4), 4)
        self.assertIsNone(told("if a == b go 2\ntell c\ntell d", 1, 1, 3, None))

    def test_jumps_over_rows(self):
        text = "if a == b go 3\nif a == c go 3\nif b == c go 4\ntell a\ntell b"
        for readings, value in (((1, 1, 2), 1), ((1, 2, 1), 1), ((3, 2, 2), 2), ((1, 2, 3), 1), ((None, 2, 2), 2),
                                ((1, None, 2), 1), ((5, 2, None), 5)):
            self.assertEqual(told(text, *readings), value)
        self.assertIsNone(told(text, None, 2, 3))
        self.assertEqual(told("if a == b go 7\n" + "doubt\n" * 6 + "tell c", 1, 1, 8), 8)
        self.assertIsNone(told("if a == b go 7\n" + "doubt\n" * 6 + "tell c", 1, 0, 8))

    def test_vote_against_none(self):
        text = "vote 0: a, b, c\ndoubt"
        self.assertEqual(told(text, 2, 2, 2), 2)
        self.assertIsNone(told(text, 2, 2, 3))
        self.assertIsNone(told(text, 3, 2, 2))
        self.assertEqual(told(text, None, 2, 2), 2)
        self.assertEqual(told(text, None, None, 2), 2)
        self.assertIsNone(told(text, None, None, None))
        self.assertIsNone(told(text, 3, None, 2))

    def test_vote_against_one(self):
        text = "vote 1: a, b, c\ntell d"
        self.assertEqual(told(text, 2, 2, 3, 9), 2)
        self.assertEqual(told(text, 3, 2, 2, 9), 2)
        self.assertEqual(told(text, 2, 3, 2, 9), 2)
        self.assertEqual(told(text, 1, 2, 3, 9), 9)
        # Of two that are different, each has only one against it: the first one is told.
        self.assertEqual(told(text, 1, None, 3, 9), 1)
        self.assertEqual(told(text, None, 2, 3, 9), 2)
        self.assertEqual(told(text, None, None, 3, 9), 3)
        self.assertEqual(told(text, None, None, None, 9), 9)

    def test_vote_against_two_and_three(self):
        self.assertEqual(told("vote 2: a, b, c\ndoubt", 1, 2, 3), 1)
        self.assertEqual(told("vote 2: a, b, c, d\ndoubt", 1, 2, 2, 3), 2)
        self.assertIsNone(told("vote 2: a, b, c, d\ndoubt", 1, 2, 3, 4))
        self.assertEqual(told("vote 2: a, b, c, d\ndoubt", 1, 2, None, 4), 1)
        self.assertEqual(told("vote 3: a, b, c, d\ndoubt", 1, 2, 3, 4), 1)
        self.assertIsNone(told("vote 3: a, b, c, d, e\ndoubt", 1, 2, 3, 4, 5))
        self.assertEqual(told("vote 3: a, b, c, d, e\ndoubt", 1, 2, 3, 4, 4), 4)
        self.assertIsNone(told("vote 3: a, b, c, d, e, f\ndoubt", 1, 2, 3, 4, 5, 5))
        self.assertEqual(told("vote 3: a, b, c, d, e, f\ndoubt", 1, 2, 3, 5, 5, 5), 5)

    def test_equal_sums_count_as_two(self):
        self.assertEqual(told("vote 0: a, a\ndoubt", 4), 4)
        self.assertIsNone(told("vote 1: a, a, b, c\ndoubt", 4, 5, 5))
        self.assertEqual(told("vote 1: a, a, b\ndoubt", 4, 5), 4)
        self.assertEqual(told("vote 1: b, a, a\ndoubt", 4, 5), 4)
        self.assertEqual(told("vote 2: b, c, a, a, a\ndoubt", 4, 5, 6), 4)
        self.assertIsNone(told("vote 1: b, b, a, a\ndoubt", 4, 5))
        self.assertEqual(told("vote 2: b, b, a, a\ndoubt", 4, 5), 5)

    def test_sums_that_are_zero_or_composed(self):
        self.assertEqual(told("vote 0: 0\ndoubt", None), 0)
        self.assertEqual(told("vote 1: a, 0, 0\ndoubt", 4), 0)
        self.assertEqual(told("vote 1: a, b + c, d - e\ndoubt", 7, 4, 3, 9, 1), 7)
        self.assertEqual(told("vote 1: a, b + c, d - e\ndoubt", 7, 4, 4, 9, 1), 8)
        self.assertEqual(told("vote 0: a, b + c, d - e\ndoubt", 7, 4, None, 8, 1), 7)
        self.assertIsNone(told("vote 0: a, b + c, d - e\ndoubt", 7, 4, None, 9, 1))

    def test_several_votes(self):
        text = "vote 0: a, b, c\nvote 1: a, b, c\ntell d"
        for readings, value in (((1, 1, 1, 9), 1), ((1, 2, 2, 9), 2), ((1, 2, 3, 9), 9), ((None, 2, 3, 9), 2)):
            self.assertEqual(told(text, *readings), value)
        text = "if a == b go 2\nvote 0: c, d\nvote 0: e, f\ndoubt"
        self.assertEqual(told(text, 1, 1, 2, 2, 3, 3), 3)
        self.assertEqual(told(text, 1, 0, 2, 2, 3, 3), 2)
        self.assertEqual(told(text, 1, 0, 2, 1, 3, 3), 3)
        self.assertIsNone(told(text, 1, 0, 2, 1, 3, 4))

    def test_integers_of_many_digits(self):
        self.assertEqual(told(f"tell {BIG}*a - b", BIG, 1), BIG * BIG - 1)
        self.assertEqual(told("if a == b go 2\ndoubt\ntell a", BIG, BIG), BIG)
        self.assertIsNone(told("if a == b go 2\ndoubt\ntell a", BIG, BIG + 1))
        self.assertEqual(told("vote 1: a, b, c\ndoubt", -BIG, 1 - BIG, 1 - BIG), 1 - BIG)
        self.assertEqual(told("vote 0: a + b, c\ndoubt", BIG, -BIG, 0), 0)

    def test_readings_need_no_world(self):
        net = NET + Meter("a", "p", sealed=True)
        self.assertEqual(outcome(net, Rule.read("tell a - b"), (1, 2, 3, 4, 5, 6)), -1)

    def test_all_small_readings(self):
        for text in ("vote 1: a, b, c, d\ndoubt", "vote 0: a, b, c, d\nvote 2: d, c, b, a\ndoubt",
                     "vote 2: a, b, c, d\ntell a",
                     "if a == b go 2\nvote 1: a, b, c\nif c == d go 4\nvote 1: b, c, d\ntell d"):
            rows = tuple(text.split("\n"))
            for readings in product((None, 0, 1, 2), repeat=4):
                shown = dict(zip("abcd", readings))
                self.assertEqual(told(text, *readings), expected_outcome(rows, shown))

    def test_random_rules(self):
        dice = random.Random(30)
        several = set()
        for _ in range(3000):
            rows = random_rule(dice)
            readings = tuple(dice.choices((None, 0, 0, 1, 1, 2, -1, BIG), k=6))
            expected = expected_outcome(rows, dict(zip("abcdef", readings)))
            self.assertEqual(outcome(NET, Rule(rows), readings), expected, (rows, readings))
            several.add(expected)
        self.assertGreater(len(several), 10)

    def test_arguments_by_name(self):
        rule = Rule.read("if a == b go 1\ntell a")
        self.assertEqual(check_by_name(self, outcome, net=NET, rule=rule, readings=(4,) * 6), 4)


class TestErrors(unittest.TestCase):
    def test_no_net(self):
        for value in odd_values() + odd_tuples() + [(), Net, str(NET), Rule(("doubt",)), Sum()]:
            check_given(self, NotANet, value, outcome, value, Rule(("doubt",)), (0,) * 6)
            check_given(self, NotANet, value, outcome, value, None, None)

    def test_no_rule(self):
        for value in odd_values() + odd_tuples() + [(), ("doubt",), "doubt", Rule, NET, Sum()]:
            check_given(self, NotARule, value, outcome, NET, value, (0,) * 6)
            check_given(self, NotARule, value, outcome, net=NET, rule=value, readings=None)

    def test_meters_that_the_net_does_not_have(self):
        for text, name in (("tell g", "g"), ("tell a + h", "h"), ("if z == a go 1\nvote 1: y, b + x\ntell 0", "x"),
                           ("doubt\ntell p", "p"), ("vote 0: a, aa\ndoubt", "aa"), ("tell a\ntell q\ntell p", "p")):
            found = raised(self, UnknownName, outcome, NET, Rule.read(text), (0,) * 6)
            self.assertEqual(found.given, name)
            self.assertEqual(raised(self, UnknownName, outcome, NET, Rule.read(text), 7).given, name)
        self.assertEqual(raised(self, UnknownName, outcome, NET - "d", Rule.read("tell d"), (0,) * 5).given, "d")

    def test_no_readings(self):
        rule = Rule.read("tell a")
        for value in odd_values() + odd_tuples() + [(), (0,) * 5, (0,) * 7, [0] * 6, ((0,) * 6,), "000000"]:
            check_index(self, InvalidReadings, None, outcome, NET, rule, value)
        for other in ("0", True, False, (0,), [0], b"", 1j, SameAsAll(), Sour(), rule):
            for at in range(6):
                readings = (0,) * at + (other,) * (6 - at)
                check_index(self, InvalidReadings, at, outcome, NET, rule, readings)
                check_index(self, InvalidReadings, at, outcome, net=NET, rule=rule, readings=readings)
        net = NET + Meter("c", "q", sealed=True)
        check_index(self, InvalidReadings, 2, outcome, net, rule, (None,) * 6)
        check_index(self, InvalidReadings, 3, outcome, net, rule, (None, None, 0, "0", None, None))

    def test_several_wrong_arguments(self):
        given = Rule.read("tell z")
        check_given(self, NotANet, 1, outcome, 1, 2, 3)
        check_given(self, NotARule, 2, outcome, NET, 2, 3)
        self.assertEqual(raised(self, UnknownName, outcome, NET, given, 3).given, "z")
        check_index(self, InvalidReadings, None, outcome, NET, Rule(("doubt",)), 3)


if __name__ == "__main__":
    unittest.main()
