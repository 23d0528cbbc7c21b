import random
import unittest
from itertools import product

from ringvotes.judging import alike, parting, rows_used
from ringvotes.nets import Meter, Net
from ringvotes.rules import Rule
from ringvotes.sums import Sum
from tests.drawn import drawn_rule, ring_and_more
from tests.linear import least_parting, pairs_of_sets, rows_reached
from tests.oracles import expected_outcome, random_nets, ring_with, world_counts
from tests.test_judging import THREE, YARD, small_worlds

TWO_WAYS = Rule(("if m1 == m2 + m3 go 2", "tell m4 + m5", "tell m1"))
BY_VOTE = Rule.voting(1, Sum.of("m1"), Sum.read("m2 + m3"), Sum.read("m4 + m5"))


def outcomes(net, rules, readings):
    """What the rules tell, found by patterns."""
    shown = dict(zip([meter.name for meter in net.meters], readings))
    return [expected_outcome(rule.rows, shown) for rule in rules]


class Comparing(unittest.TestCase):
    def check(self, net, one, two, wrong, silent, expected):
        """The rules are compared as expected: None or the least counts in a world in which the outcomes differ."""
        told = (str(net), str(one), str(two), wrong, silent, expected)
        for rules in ((one, two), (two, one)):
            world = parting(net, *rules, wrong=wrong, silent=silent)
            self.assertIs(alike(net, *rules, wrong=wrong, silent=silent), expected is None, told)
            if expected is None:
                self.assertIsNone(world, told)
            else:
                self.assertEqual(world_counts(net, world), expected, told)
                first, second = outcomes(net, rules, world[1])
                self.assertNotEqual(first, second, told)


class TestAlike(Comparing):
    def test_drawn_rules(self):
        dice = random.Random(110)
        several = set()
        nets = [net for net in random_nets(111, 150, most_pipes=5, most_meters=5, seals=8) if net.meters]
        for net in nets + [ring_and_more(dice, 4) for _ in range(120)]:
            name = dice.choice(net.pipes).name
            one, two = [drawn_rule(dice, net, name, most_rows=4, most_sums=3) for _ in range(2)]
            wrong, silent = dice.randint(0, 2), dice.randint(0, 2)
            expected = least_parting(net, one.rows, two.rows, wrong, silent)
            self.check(net, one, two, wrong, silent, expected)
            several.add(expected)
        self.assertGreater(len(several), 4)

    def test_by_all_small_worlds(self):
        dice = random.Random(112)
        for _ in range(60):
            net = ring_and_more(dice, 3)
            name = dice.choice(net.pipes).name
            one, two = [drawn_rule(dice, net, name, most_rows=3, most_sums=3) for _ in range(2)]
            found = [
                world_counts(net, world)
                for chosen, hushed in pairs_of_sets(net, 1, 1)
                for world in small_worlds(net, chosen, hushed, range(-2, 3))
                if len(set(outcomes(net, (one, two), world[1]))) > 1
            ]
            self.check(net, one, two, 1, 1, min(found, default=None))

    def test_a_rule_and_itself(self):
        dice = random.Random(113)
        for _ in range(40):
            net = ring_and_more(dice, 5)
            rule = drawn_rule(dice, net, net.pipes[0].name)
            for wrong, silent in ((0, 0), (1, 1), (2, 1), (3, 3)):
                self.check(net, rule, Rule(rule.rows), wrong, silent, None)
        self.check(YARD, BY_VOTE, BY_VOTE, 3, 2, None)

    def test_the_yard(self):
        self.check(YARD, TWO_WAYS, BY_VOTE, 0, 0, None)
        self.check(YARD, TWO_WAYS, BY_VOTE, 1, 0, None)
        self.check(YARD, TWO_WAYS, BY_VOTE, 2, 0, (2, 0))
        self.check(YARD, TWO_WAYS, BY_VOTE, 0, 1, None)
        self.check(YARD, TWO_WAYS, BY_VOTE, 1, 1, (1, 1))
        self.check(YARD, TWO_WAYS, BY_VOTE, 0, 2, (0, 2))

    def test_rows_that_are_written_otherwise(self):
        for one, two in (
            ("tell a", "if a == b go 1\ntell a"),
            ("tell a", "if a == b go 2\ntell a\ntell a"),
            ("if a == b go 2\ntell c\ntell a", "if b == a go 2\ntell c\ntell b"),
            ("if a == b go 2\ntell c\ntell a", "if a - b == 0 go 2\ntell c\ntell 2*a - b"),
            ("vote 0: a, b\ndoubt", "vote 0: b, a\ndoubt"),
            ("vote 0: a, b, c\ndoubt", "if a == b go 2\ndoubt\nif a == c go 4\ndoubt\ntell b"),
            ("vote 0: a, a\ntell b", "vote 3: a\ntell b"),
            ("tell 0", "vote 2: 0, 0\ndoubt"),
            ("doubt", "doubt\ntell a"),
            ("vote 0: a\ndoubt", "tell a"),
        ):
            for wrong in range(4):
                expected = least_parting(THREE, one.split("\n"), two.split("\n"), wrong, 0)
                self.assertIsNone(expected)
                self.check(THREE, Rule.read(one), Rule.read(two), wrong, 0, None)
            for silent in range(1, 4):
                expected = least_parting(THREE, one.split("\n"), two.split("\n"), 1, silent)
                self.check(THREE, Rule.read(one), Rule.read(two), 1, silent, expected)

    def test_doubt_is_no_integer(self):
        doubt = Rule.read("doubt")
        self.check(THREE, doubt, Rule.read("tell 0"), 0, 0, (0, 0))
        self.check(THREE, doubt, Rule.read("tell a"), 0, 0, (0, 0))
        self.check(THREE, doubt, Rule.read("if a == c go 2\ntell 0\ndoubt"), 0, 0, None)
        self.check(THREE, doubt, Rule.read("if a == c go 2\ntell 0\ndoubt"), 1, 0, (1, 0))
        self.check(THREE, doubt, Rule.read("if a == c go 2\ntell b\ndoubt"), 0, 3, (0, 1))
        self.check(THREE, doubt, Rule.read("if a == c go 2\ntell a\ndoubt"), 0, 3, (0, 1))
        self.check(THREE, Rule.read("tell a"), Rule.read("tell b"), 0, 3, (0, 1))
        self.check(Net.read("pipe p x y\nmeter a p"), doubt, Rule.read("tell a"), 0, 0, (0, 0))

    def test_integers_that_are_told(self):
        self.check(THREE, Rule.read("tell a"), Rule.read("tell b"), 0, 0, None)
        self.check(THREE, Rule.read("tell a"), Rule.read("tell b"), 1, 0, (1, 0))
        self.check(THREE, Rule.read("tell a"), Rule.read("tell 2*a"), 0, 0, (0, 0))
        self.check(THREE, Rule.read("tell a + b"), Rule.read("tell 2*c"), 0, 0, None)
        self.check(Net.read("pipe p x y\nmeter a p"), Rule.read("tell a"), Rule.read("tell 7*a"), 0, 3, None)
        self.check(Net.read("pipe p x y\nmeter a p"), Rule.read("tell a"), Rule.read("tell 7*a"), 1, 3, (1, 0))

    def test_far_ends_of_long_rules(self):
        rows = tuple([f"if {Sum((('a', factor),))} == b go 7" for factor in (-3, -2, -1, 0, 2, 3)])
        self.check(THREE, Rule(rows + ("tell a", "doubt")), Rule(rows + ("tell b", "doubt")), 0, 0, None)
        self.check(THREE, Rule(rows + ("tell a", "doubt")), Rule(rows + ("tell b", "doubt")), 2, 0, (1, 0))
        self.check(THREE, Rule(rows + ("tell c", "doubt")), Rule(rows + ("doubt", "doubt")), 0, 0, (0, 0))
        self.check(THREE, Rule(rows + ("tell c", "doubt")), Rule(rows + ("tell c", "tell 0")), 0, 0, (0, 0))

    def test_one_rule_behind_the_other(self):
        # What the run of the first rule has found holds in the run of the second one, too.
        one = Rule.read("if a == b go 2\ndoubt\ntell a")
        two = Rule.read("if a == b go 3\nif a == a go 2\ndoubt\ntell b")
        self.check(THREE, one, two, 3, 0, None)
        self.check(THREE, one, Rule.read("if a == b go 2\ntell a - b\ntell b"), 3, 0, (1, 0))

    def test_sealed_meters(self):
        net = THREE + Meter("a", "p", sealed=True) + Meter("b", "p", sealed=True)
        self.check(net, Rule.read("tell a"), Rule.read("tell b"), 3, 3, None)
        self.check(net, Rule.read("tell a"), Rule.read("tell c"), 3, 0, (1, 0))
        self.check(net, Rule.read("tell a"), Rule.read("tell c"), 0, 3, (0, 1))

    def test_large_net(self):
        net = ring_with(12, (1,) * 12)
        names = [f"m{index}n0" for index in range(6)]
        one = Rule((f"vote 1: {', '.join(names)}", "doubt"))
        two = Rule((f"vote 1: {', '.join(names[::-1])}", "doubt"))
        self.assertTrue(alike(net, one, two, wrong=2, silent=1))
        world = parting(net, one, two, wrong=3)
        self.assertIsNone(world)
        self.assertEqual(world_counts(net, parting(net, one, Rule((f"vote 0: {', '.join(names)}", "doubt")), wrong=3)), (1, 0))

    def test_defaults(self):
        one, two = Rule.read("tell a"), Rule.read("tell b")
        self.assertIs(alike(THREE, one, two), True)
        self.assertIsNone(parting(THREE, one, two))
        self.assertIs(alike(THREE, one, two, wrong=1), False)
        self.assertIs(alike(THREE, one, two, silent=1), False)
        self.assertEqual(alike(net=THREE, one=one, two=two, silent=0, wrong=0), True)
        self.assertEqual(world_counts(THREE, parting(two=two, one=one, net=THREE, silent=2)), (0, 1))


class TestRowsUsed(unittest.TestCase):
    def check(self, net, rule, wrong, silent, expected=None):
        reached = rows_reached(net, rule.rows, wrong, silent)
        self.assertEqual(rows_used(net, rule, wrong=wrong, silent=silent), reached, (str(net), str(rule), wrong, silent))
        self.assertEqual(reached[0], 0)
        if expected is not None:
            self.assertEqual(reached, expected)

    def test_drawn_rules(self):
        dice = random.Random(120)
        nets = [net for net in random_nets(121, 100, most_pipes=5, most_meters=5, seals=8) if net.meters]
        for net in nets + [ring_and_more(dice, 4) for _ in range(80)]:
            rule = drawn_rule(dice, net, dice.choice(net.pipes).name, most_rows=8, most_sums=3)
            self.check(net, rule, dice.randint(0, 2), dice.randint(0, 2))

    def test_runs_in_small_worlds_come_to_no_other_rows(self):
        dice = random.Random(122)
        for _ in range(30):
            net = ring_and_more(dice, 3)
            rule = drawn_rule(dice, net, net.pipes[0].name, most_rows=6, most_sums=3)
            used = rows_used(net, rule, wrong=1, silent=1)
            # With this row put in the place of a row that no run comes to, the outcomes are the same.
            for index in range(len(rule) - 1):
                rows = rule.rows[:index] + ("tell 0",) + rule.rows[index + 1:]
                if index not in used:
                    for chosen, hushed in pairs_of_sets(net, 1, 1):
                        for world in small_worlds(net, chosen, hushed, range(-2, 3)):
                            self.assertEqual(len(set(outcomes(net, (rule, Rule(rows)), world[1]))), 1)

    def test_bounds_from_0_to_3(self):
        rule = Rule.read("vote 2: a, b, c\nif a == b go 3\ntell a\nif b == c go 5\ntell b\nvote 0: c\ndoubt")
        for wrong, silent in product(range(4), repeat=2):
            self.check(THREE, rule, wrong, silent)
        rule = Rule.read("vote 1: a, b, c\nif a == b go 3\ntell a\nif b == c go 5\ntell b\nvote 0: c\ndoubt")
        for wrong, silent in product(range(4), repeat=2):
            self.check(THREE, rule, wrong, silent)

    def test_known_rules(self):
        for text, wrong, silent, expected in (
            ("tell a", 3, 3, (0,)), ("doubt\ntell a", 3, 3, (0,)),
            ("if a == b go 2\ntell c\ntell a", 0, 0, (0, 2)), ("if a == b go 2\ntell c\ntell a", 1, 0, (0, 1, 2)),
            ("if a == b go 2\ntell c\ntell a", 0, 1, (0, 1, 2)), ("if a == b go 1\ntell c\ntell a", 3, 3, (0, 1)),
            ("if a == 0 go 2\ntell c\ntell a", 0, 0, (0, 1, 2)), ("if 0 == 0 go 2\ntell c\ntell a", 3, 3, (0, 2)),
            ("vote 0: a, b\ntell c", 0, 0, (0,)), ("vote 0: a, b\ntell c", 1, 0, (0, 1)),
            ("vote 0: a, b\ntell c", 0, 1, (0,)), ("vote 0: a, b\ntell c", 0, 2, (0, 1)),
            ("vote 1: a, b\ntell c", 3, 0, (0,)), ("if a == b go 3\nif a == c go 3\nif b == c go 4\ntell a\ntell b", 1, 0,
                                                   (0, 1, 2, 3, 4)),
            ("if a == b go 3\nif a == c go 3\nif b == c go 4\ntell a\ntell b", 0, 0, (0, 3)),
            # Both rows are passed if a is silent, and only then.
            ("if a == b go 3\nif a == a go 4\ntell c\ntell b\ntell a", 0, 1, (0, 1, 2, 3, 4)),
            ("if a == b go 3\nif a == a go 4\ntell c\ntell b\ntell a", 2, 0, (0, 1, 3, 4)),
        ):
            self.check(THREE, Rule.read(text), wrong, silent, expected)

    def test_the_yard(self):
        self.assertEqual(rows_used(YARD, TWO_WAYS), (0, 2))
        self.assertEqual(rows_used(YARD, TWO_WAYS, wrong=1), (0, 1, 2))
        self.assertEqual(rows_used(YARD, TWO_WAYS, silent=1), (0, 1, 2))
        self.assertEqual(rows_used(net=YARD, rule=BY_VOTE, silent=0, wrong=1), (0,))
        self.assertEqual(rows_used(YARD, BY_VOTE, wrong=2), (0, 1))

    def test_other_places_know_nothing(self):
        # No flow is in a pipe on no ring, so its meter shows 0 unless it is wrong.
        net = Net.read("pipe p a b\npipe q b c\npipe r c b\nmeter m p\nmeter k q")
        rule = Rule.read("if m == 0 go 2\ndoubt\nif k == 0 go 4\ntell k\ntell 0")
        self.assertEqual(rows_used(net, rule), (0, 2, 3, 4))
        self.assertEqual(rows_used(net, rule, wrong=1), (0, 1, 2, 3, 4))


if __name__ == "__main__":
    unittest.main()
