import random
import unittest
from itertools import combinations

from ringvotes.errors import InvalidFaults, InvalidReadings, NotANet, NotASum, UnknownName
from ringvotes.nets import Meter, Net, Pipe
from ringvotes.rules import Rule, outcome
from ringvotes.strengths import can_tell, misleading, ring_through
from ringvotes.sums import Sum
from ringvotes.votes import is_vote, tally, votes, voting_rule
from tests.oracles import ALL_FAULTS, amount_at, grid, random_flow, random_nets, ring_with, true_readings
from tests.support import (
    SameAsAll,
    Sour,
    check_all_given,
    check_given,
    check_index,
    odd_faults,
    odd_tuples,
    odd_values,
    raised,
)

YARD = Net.read(
    "pipe src o a\npipe left a b\npipe right a c\npipe lout b o\npipe rout c o\n"
    "meter m1 src\nmeter m2 left\nmeter m3 right\nmeter m4 lout\nmeter m5 rout"
)


class TestVotingRule(unittest.TestCase):
    def check_form(self, net, name, faults):
        """The rule is None or lets some of the votes vote; returns it."""
        rule = voting_rule(net, name, faults)
        if not can_tell(net, name, faults):
            self.assertIsNone(rule)
            return None
        self.assertIs(rule.__class__, Rule)
        self.assertEqual((len(rule), rule.rows[1]), (2, "doubt"))
        head, texts = rule.rows[0].split(": ")
        self.assertEqual(head, f"vote {faults[0]}")
        known = [str(total) for total in votes(net, name)]
        for text in texts.split(", "):
            self.assertIn(text, known)
            # None of the votes is taken twice.
            known.remove(text)
        return rule

    def check_world(self, net, name, rule, faults, flow, seen):
        """The outcome for these readings is the flow of the pipe, or may be doubt."""
        true = true_readings(net, flow)
        wrong = [index for index, value in enumerate(seen) if value is not None and value != true[index]]
        self.assertTrue(len(wrong) <= faults[1] and seen.count(None) <= faults[2])
        found = outcome(net, rule, tuple(seen))
        allowed = {amount_at(net, flow, name)} if len(wrong) <= faults[0] else {amount_at(net, flow, name), None}
        self.assertIn(found, allowed, (str(net), name, str(rule), flow, seen))

    def test_none_exactly_if_the_pipe_cannot_be_told(self):
        for net in random_nets(70, 80, most_pipes=8, most_meters=12, seals=9) + [grid(), ring_with(12, (1,) * 12)]:
            for pipe in net.pipes:
                for faults in ALL_FAULTS[::3]:
                    self.check_form(net, pipe.name, faults)

    def test_all_worlds_of_the_yard(self):
        ring = (1, 1, 0, 1, 0)
        for faults in ALL_FAULTS:
            rule = self.check_form(YARD, "src", faults)
            if rule is None:
                continue
            for flow in ((0,) * 5, (7, 4, 3, 4, 3)):
                for spoilt in spoilt_readings(YARD, flow, ring, faults):
                    self.check_world(YARD, "src", rule, faults, flow, spoilt)

    def test_all_spoilt_meters_agree(self):
        # Meters that show another flow together are the hardest to outvote.
        for net in random_nets(71, 40, most_pipes=5, most_meters=7, seals=12):
            dice = random.Random(72)
            for pipe in net.pipes:
                ring = ring_through(net, pipe.name) or random_flow(dice, net, 2)
                for faults in ((0, 0, 0), (1, 1, 0), (1, 1, 1), (0, 2, 0), (1, 2, 0), (0, 0, 2), (2, 2, 0), (0, 3, 1)):
                    rule = self.check_form(net, pipe.name, faults)
                    if rule is not None:
                        flow = random_flow(dice, net, 5)
                        for spoilt in spoilt_readings(net, flow, ring, faults):
                            self.check_world(net, pipe.name, rule, faults, flow, spoilt)

    def test_random_worlds_of_large_nets(self):
        dice = random.Random(73)
        mixed = Net((Pipe("p", "x", "y"), Pipe("q", "y", "x")), tuple([
            Meter(f"m{at}", "pq"[at % 2]) for at in range(12)
        ]))
        for net in (mixed, ring_with(3, (5, 4, 3)), ring_with(12, (1,) * 12), grid()):
            for pipe in net.pipes:
                for faults in ALL_FAULTS:
                    rule = self.check_form(net, pipe.name, faults)
                    if rule is not None:
                        for _ in range(4):
                            self.check_random_world(dice, net, pipe.name, rule, faults)

    def check_random_world(self, dice, net, name, rule, faults):
        flow = random_flow(dice, net, 50)
        other = true_readings(net, random_flow(dice, net, 50))
        seen = list(true_readings(net, flow))
        indexes = dice.sample(range(len(seen)), faults[1] + faults[2])
        for index in indexes[:faults[1]]:
            seen[index] = dice.choice((other[index], seen[index] + 1, seen[index] - 7, 10 ** 30))
        for index in indexes[faults[1]:]:
            seen[index] = None
        self.check_world(net, name, rule, faults, flow, seen)

    def test_the_greatest_faults(self):
        net = ring_with(2, (6, 6))
        for faults in ((3, 3, 3), (3, 3, 2), (0, 3, 3), (0, 0, 0)):
            rule = voting_rule(net, "p0", faults)
            self.assertLessEqual(len(rule.rows[0].split(", ")), 10)
            self.assertEqual(outcome(net, rule, (4,) * 12), 4)
        rule = voting_rule(net, "p1", (3, 3, 3))
        for three in combinations(range(12), 3):
            for more in combinations([index for index in range(12) if index not in three], 3):
                readings = [9 if index in three else None if index in more else 4 for index in range(12)]
                self.assertEqual(outcome(net, rule, tuple(readings)), 4)

    def test_strength_none(self):
        net = YARD + Meter("s", "src", sealed=True)
        for faults in ALL_FAULTS:
            self.assertEqual(voting_rule(net, "src", faults), Rule((f"vote {faults[0]}: s", "doubt")))
            self.assertEqual(voting_rule(Net.read("pipe p a b"), "p", faults), Rule((f"vote {faults[0]}: 0", "doubt")))
        self.assertEqual(outcome(net, voting_rule(net, "src", (3, 3, 3)), (None, 9, 9, 9, 9, 7)), 7)

    def test_the_yard(self):
        self.assertIsNone(voting_rule(YARD, "src", (1, 1, 1)))
        self.assertEqual(outcome(YARD, voting_rule(YARD, "src", (1, 1, 0)), (7, 4, 3, 4, 5)), 7)
        # One vote is enough for (0, 0, 0), but it must not be silent or wrong then.
        self.assertEqual(outcome(YARD, voting_rule(YARD, "src", (0, 0, 0)), (7, 4, 3, 4, 3)), 7)
        self.assertIsNone(misleading(YARD, "src", (0, 0, 2)))
        for silent in combinations(range(5), 2):
            readings = tuple([None if index in silent else (7, 4, 3, 4, 3)[index] for index in range(5)])
            self.assertEqual(outcome(YARD, voting_rule(YARD, "src", (0, 0, 2)), readings), 7)


def spoilt_readings(net, flow, ring, faults):
    """Readings in which all choices of as many meters as the faults allow show the flow with the ring, or nothing."""
    true = true_readings(net, flow)
    other = [amount + more for amount, more in zip(true, true_readings(net, ring))]
    free = [index for index, meter in enumerate(net.meters) if not meter.sealed]
    for wrong in range(min(faults[1], len(free)) + 1):
        for chosen in combinations(free, wrong):
            rest = [index for index in free if index not in chosen]
            for silent in combinations(rest, min(faults[2], len(rest))):
                yield [
                    None if index in silent else other[index] if index in chosen else true[index]
                    for index in range(len(true))
                ]


class TestErrors(unittest.TestCase):
    def calls(self):
        """The functions with arguments that are right behind the net and the pipe, and with some that are wrong."""
        return [
            (is_vote, (Sum(),)), (votes, ()), (tally, ((0,) * 5,)), (voting_rule, ((0, 0, 0),)),
            (is_vote, ("m1",)), (tally, (None,)), (voting_rule, ((1, 0, 0),)), (is_vote, (Sum.of("z"),)),
        ]

    def test_no_net(self):
        for value in odd_values() + odd_tuples() + [(), Net, str(YARD), YARD.pipes, Sum()]:
            for call, rest in self.calls():
                check_given(self, NotANet, value, call, value, "src", *rest)
                check_given(self, NotANet, value, call, value, None, *rest)

    def test_no_pipe_of_the_net(self):
        for value in odd_values() + odd_tuples() + [(), "m1", "a", "srcs", "sr", ("src",), YARD.pipes[0], YARD]:
            for call, rest in self.calls():
                check_given(self, UnknownName, value, call, YARD, value, *rest)

    def test_no_sum(self):
        values = odd_values() + odd_tuples() + [(), "m1", Sum, YARD, Rule(("tell m1",)), Sum.of("m1").terms]
        check_all_given(self, NotASum, values, is_vote, YARD, "src")
        others = (("z", "z"), ("m1 + m6 + z", "m6"), ("src", "src"), ("a + m1", "a"), ("m10 + m2 + m9", "m10"))
        for text, name in others:
            self.assertEqual(raised(self, UnknownName, is_vote, YARD, "src", Sum.read(text)).given, name)

    def test_no_faults(self):
        for net in (YARD, Net.read("pipe src a b"), Net.read("pipe src a b\npipe q a b")):
            check_all_given(self, InvalidFaults, odd_faults(), voting_rule, net, "src")
        for value in odd_faults():
            check_given(self, InvalidFaults, value, voting_rule, net=YARD, pipe="left", faults=value)

    def test_no_readings(self):
        net = YARD + Meter("m2", "left", sealed=True)
        for value in odd_values() + odd_tuples() + [(), (0,) * 4, (0,) * 6, [0] * 5, "00000"]:
            check_index(self, InvalidReadings, None, tally, net, "src", value)
        for other in ("0", True, False, (0,), [], 1j, SameAsAll(), Sour(), Sum()):
            for at in range(5):
                readings = (0,) * at + (other,) * (5 - at)
                check_index(self, InvalidReadings, at, tally, net, "src", readings)
                check_index(self, InvalidReadings, at, tally, net=net, pipe="src", readings=readings)
        check_index(self, InvalidReadings, 1, tally, net, "rout", (None,) * 5)
        check_index(self, InvalidReadings, 0, tally, net, "rout", ("", None, 0, 0, 0))

    def test_several_wrong_arguments(self):
        self.assertEqual(raised(self, UnknownName, is_vote, YARD, "z", Sum.of("y")).given, "z")
        self.assertEqual(raised(self, UnknownName, is_vote, YARD, "left", Sum.of("y")).given, "y")
        self.assertEqual(raised(self, NotANet, voting_rule, 1, 2, 3).given, 1)
        self.assertEqual(raised(self, UnknownName, voting_rule, YARD, 2, 3).given, 2)
        self.assertEqual(raised(self, UnknownName, tally, YARD, 2, 3).given, 2)


if __name__ == "__main__":
    unittest.main()
