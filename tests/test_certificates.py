import random
import unittest

from ringvotes.additions import cheapest
from ringvotes.certificates import certify_cheapest, certify_nets, certify_readings, certify_rule, certify_told
from ringvotes.checker import accepts
from ringvotes.compared import same_readings
from ringvotes.errors import (
    InvalidFaults,
    InvalidPrices,
    InvalidReadings,
    NotANet,
    NotARule,
    OtherMeters,
    TooMany,
    UnknownName,
)
from ringvotes.judging import is_right
from ringvotes.nets import Meter, Net, Pipe
from ringvotes.rules import Rule
from ringvotes.strengths import can_tell
from ringvotes.sums import Sum
from ringvotes.votes import voting_rule, votes
from tests.drawn import drawn_faults, drawn_readings, drawn_rule, ring_and_more, voting_rows
from tests.linear import fit, least_fooling
from tests.oracles import ALL_FAULTS, grid, random_net, random_nets, ring_with
from tests.support import (
    SameAsAll,
    Sour,
    check_by_name,
    check_given,
    check_index,
    odd_faults,
    odd_tuples,
    odd_values,
    raised,
)
from tests.words import bends, fits

YARD = Net.read(
    "pipe src o a\npipe left a b\npipe right a c\npipe lout b o\npipe rout c o\n"
    "meter m1 src\nmeter m2 left\nmeter m3 right\nmeter m4 lout\nmeter m5 rout"
)
RULE = Rule(("if m1 == m2 + m3 go 2", "tell m4 + m5", "tell m1"))
BIG = 10 ** 39


def large_nets():
    """Nets of twelve pipes or twelve meters, or both."""
    edges = "ab bc cd da ae bf cg dh ef fg gh he".split()
    cube = Net(
        tuple([Pipe(f"e{index}", *ends) for index, ends in enumerate(edges)]),
        tuple([Meter(f"x{index}", f"e{index * 5 % 12}", sealed=index == 7) for index in range(12)]),
    )
    ways = [Pipe(f"w{index}", *("xy" if index % 2 else "yx")) for index in range(12)]
    flat = Net(tuple(ways), tuple([Meter(f"k{index}", f"w{index}") for index in range(12)]))
    bare = Net(tuple(ways), tuple([Meter(f"k{index}", f"w{index % 3}") for index in range(12)]))
    return [grid(), cube, flat, bare, ring_with(12, (1,) * 12), ring_with(3, (5, 4, 3))]


class Certified(unittest.TestCase):
    def check(self, pair, *claim):
        """The pair has this claim and a certificate for it; returns the certificate."""
        self.assertEqual((pair.__class__, len(pair)), (tuple, 2))
        self.assertEqual(pair[0], claim)
        self.assertTrue(all(one.__class__ is two.__class__ for one, two in zip(pair[0], claim)))
        self.assertIs(accepts(*pair), True, claim)
        return pair[1]


class TestTold(Certified):
    def check_told(self, net, name, faults):
        word = "tells" if can_tell(net, name, faults) else "misleads"
        return self.check(certify_told(net, name, faults), word, str(net), name, faults)

    def test_drawn_nets(self):
        for net in random_nets(220, 120, most_pipes=7, most_meters=8):
            for pipe in net.pipes:
                for faults in ALL_FAULTS[::4]:
                    certificate = self.check_told(net, pipe.name, faults)
                    claim = certify_told(net, pipe.name, faults)[0]
                    self.assertTrue(fits(claim, certificate), claim)

    def test_large_nets(self):
        for net in large_nets():
            for pipe in net.pipes:
                for faults in ALL_FAULTS[::5]:
                    self.check_told(net, pipe.name, faults)

    def test_strength_none(self):
        sealed = YARD + Meter("m1", "src", sealed=True)
        for faults in ((0, 0, 0), (3, 3, 3)):
            self.check_told(sealed, "src", faults)
            self.check_told(Net.read("pipe p x y"), "p", faults)
            self.check_told(Net.read("pipe p x y\npipe q y z\npipe r z y\npipe s w v"), "p", faults)

    def test_the_other_claim_is_not_accepted(self):
        for net in random_nets(221, 40, most_pipes=5, most_meters=5):
            name, faults = net.pipes[0].name, (0, 1, 1)
            claim, certificate = certify_told(net, name, faults)
            word = {"tells": "misleads", "misleads": "tells"}[claim[0]]
            self.assertFalse(accepts((word,) + claim[1:], certificate))

    def test_by_name(self):
        claim, _ = check_by_name(self, certify_told, net=YARD, pipe="src", faults=(1, 1, 0))
        self.assertEqual(claim, ("tells", str(YARD), "src", (1, 1, 0)))


class TestRules(Certified):
    def check_rule(self, net, name, rule, faults):
        word = "right" if is_right(net, name, rule, faults) else "fools"
        return self.check(certify_rule(net, name, rule, faults), word, str(net), name, str(rule), faults)

    def test_drawn_rules(self):
        dice = random.Random(222)
        words = {}
        for net in [ring_and_more(dice, 5) for _ in range(120)] + random_nets(223, 80, most_pipes=5, most_meters=5):
            if not net.meters:
                continue
            name, faults = dice.choice(net.pipes).name, drawn_faults(dice)
            for rule in (drawn_rule(dice, net, name), voting_rows(dice, net, name, faults)):
                self.check_rule(net, name, rule, faults)
                claim, certificate = certify_rule(net, name, rule, faults)
                self.assertEqual(claim[0] == "right", least_fooling(net, name, rule.rows, faults) is None)
                self.assertTrue(fits(claim, certificate), claim)
                words[claim[0]] = words.get(claim[0], 0) + 1
        self.assertGreater(min(words.values()), 50, words)

    def test_trees_of_all_kinds(self):
        net = Net.read("pipe p x y\npipe q y x\npipe r x y\nmeter a p\nmeter b p\nmeter c q\nmeter d r\nmeter e p sealed")
        for text in ("vote 1: a, b, c - d\ndoubt", "vote 0: a, b, c - d\nvote 1: b, a, c - d\ntell e", "tell e",
                     "if a == b go 3\nif a == c - d go 3\ntell b\ntell a", "if a == 0 go 2\nif b == 7*a go 2\ntell e",
                     "vote 2: a, b, c - d, e\ndoubt", "if 2*a == b + c - d go 1\nvote 1: e, b, a\ndoubt", "doubt\ntell a"):
            for faults in ((0, 0, 0), (0, 1, 0), (1, 1, 0), (0, 2, 0), (1, 2, 0), (0, 1, 1), (1, 1, 1), (0, 0, 2), (2, 2, 0)):
                certificate = self.check_rule(net, "p", Rule.read(text), faults)
                self.assertTrue(fits(certify_rule(net, "p", Rule.read(text), faults)[0], certificate))

    def test_large_nets(self):
        for net in large_nets():
            for name in (net.pipes[0].name, net.pipes[5 % len(net)].name):
                for faults in ((1, 1, 0), (0, 2, 0), (0, 1, 1), (1, 1, 1), (0, 0, 2)):
                    rule = Rule.voting(faults[0], *votes(net, name)[:10] or (Sum(),))
                    self.check_rule(net, name, rule, faults)

    def test_as_many_faults_as_can_be_judged(self):
        net = ring_with(12, (1,) * 12)
        for faults in ((3, 3, 0), (2, 2, 1), (0, 0, 3), (1, 3, 0)):
            rule = voting_rule(net, "p0", faults)
            certificate = self.check_rule(net, "p0", rule, faults)
            claim = certify_rule(net, "p0", rule, faults)[0]
            self.assertFalse(accepts(claim, certificate[1:]))
            self.assertFalse(accepts(claim, certificate + certificate[:1]))
            self.assertTrue(accepts(claim, certificate[::-1]))

    def test_rules_of_which_no_run_tests_anything(self):
        for text in ("tell m1", "vote 3: m1\ndoubt", "vote 0: m1\nvote 0: m2 + m3\ntell m4 + m5"):
            for faults in ((0, 0, 0), (0, 0, 1), (0, 0, 2), (0, 1, 0)):
                self.check_rule(YARD, "src", Rule.read(text), faults)

    def test_large_coefficients(self):
        rule = Rule.read(f"if {BIG}*m1 == {BIG}*m2 + {BIG}*m3 go 2\ntell m4 + m5\ntell m1")
        self.check_rule(YARD, "src", rule, (1, 1, 0))
        self.check_rule(YARD, "src", rule, (1, 1, 1))

    def test_bent_certificates(self):
        rule = Rule.read("vote 0: m1, m2 + m3\ndoubt")
        claim, certificate = certify_rule(YARD - "m4" - "m5", "src", rule, (0, 1, 0))
        self.assertEqual(claim[0], "right")
        for bent in bends(certificate):
            self.assertIs(accepts(claim, bent), fits(claim, bent), bent)

    def test_the_rule_of_the_document(self):
        self.check_rule(YARD, "src", RULE, (1, 1, 0))
        self.check_rule(YARD, "src", RULE, (1, 1, 1))
        claim, _ = check_by_name(self, certify_rule, net=YARD, pipe="src", rule=RULE, faults=(1, 1, 0))
        self.assertEqual(claim[0], "right")


class TestReadings(Certified):
    def check_readings(self, net, readings):
        pair = certify_readings(net, readings)
        if fit(net, readings):
            self.assertIsNone(pair)
            return None
        certificate = self.check(pair, "clash", str(net), readings)
        self.assertTrue(fits(pair[0], certificate))
        return pair

    def test_drawn_readings(self):
        dice = random.Random(224)
        clashes = 0
        for net in random_nets(225, 250, most_pipes=7, most_meters=8, seals=4) + large_nets() * 5:
            clashes += self.check_readings(net, drawn_readings(dice, net)) is not None
        self.assertTrue(80 < clashes < 260, clashes)

    def test_forty_digits(self):
        self.assertIsNone(self.check_readings(YARD, (BIG, BIG - 1, 1, BIG - 1, None)))
        self.assertIsNotNone(self.check_readings(YARD, (BIG, BIG - 1, 1, BIG, None)))
        self.assertIsNotNone(self.check_readings(YARD, (-BIG, BIG, None, None, 9 * BIG)))
        self.assertIsNotNone(self.check_readings(ring_with(2, (6, 6)), (BIG,) * 11 + (BIG + 1,)))

    def test_silent_and_sealed_meters(self):
        net = Net.read("pipe p x y\npipe q y x\nmeter a p\nmeter b q sealed\nmeter c p")
        for readings in ((1, 1, 1), (None, 1, None), (None, 1, 2), (1, 2, None), (1, 2, 1), (1, 1, 2)):
            self.check_readings(net, readings)
        self.assertIsNone(self.check_readings(Net.read("pipe p x y"), ()))
        self.assertIsNotNone(self.check_readings(Net.read("pipe p x y\nmeter s p sealed"), (1,)))

    def test_by_name(self):
        self.assertEqual(check_by_name(self, certify_readings, net=YARD, readings=(7, 4, 3, 4, 3)), None)
        self.assertEqual(check_by_name(self, certify_readings, net=YARD, readings=(7, 4, 3, 4, 5))[0][0], "clash")


class TestNets(Certified):
    def check_nets(self, net, other):
        for one, two in ((net, other), (other, net)):
            word = "same" if same_readings(one, two) else "differ"
            pair = certify_nets(one, two)
            self.assertTrue(fits(pair[0], self.check(pair, word, str(one), str(two))))
        return word

    def test_drawn_nets(self):
        dice = random.Random(226)
        words = {}
        nets = random_nets(227, 100, most_pipes=6, most_meters=5)
        for net in nets:
            other = dice.choice(nets)
            meters = [Meter(meter.name, dice.choice(other.pipes).name) for meter in net.meters[::-1]]
            for two in (Net(other.pipes, tuple(meters)), Net(net.pipes[::-1], net.meters[::-1])):
                word = self.check_nets(net, two)
                words[word] = words.get(word, 0) + 1
        self.assertGreater(min(words.values()), 20, words)

    def test_large_nets(self):
        for net in large_nets():
            pipes = tuple([Pipe(f"u{pipe.name}", pipe.end, pipe.start) for pipe in net.pipes[::-1]])
            meters = tuple([Meter(meter.name, f"u{meter.at}") for meter in net.meters[::-1]])
            self.assertEqual(self.check_nets(net, Net(pipes, meters)), "same")
            moved = net + Meter(net.meters[0].name, net.pipes[-1].name)
            self.check_nets(net, moved)
        self.assertEqual(self.check_nets(grid(), grid() + Meter("mh00", "v12")), "differ")

    def test_nets_without_meters_and_rings(self):
        self.assertEqual(self.check_nets(Net.read("pipe p x y"), Net(grid().pipes)), "same")
        self.assertEqual(self.check_nets(Net.read("pipe p x y\nmeter m p"), Net.read("pipe p x y\npipe q y x\nmeter m p")), "differ")

    def test_by_name(self):
        self.assertEqual(check_by_name(self, certify_nets, net=YARD, other=YARD)[0], ("same", str(YARD), str(YARD)))


class TestCheapest(Certified):
    def check_cheapest(self, net, prices):
        pair = certify_cheapest(net, prices)
        certificate = self.check(pair, "cheapest", str(net), prices, cheapest(net, prices))
        self.assertTrue(fits(pair[0], certificate))
        return certificate

    def test_drawn_prices(self):
        dice = random.Random(228)
        for net in random_nets(229, 150, most_pipes=8, most_meters=3) + large_nets():
            self.check_cheapest(net, tuple([dice.choice((0, 0, 1, 2, 5, 10 ** 29, 10 ** 30 - 1)) for _ in net.pipes]))
            self.check_cheapest(net, tuple([dice.randrange(10 ** 30) for _ in net.pipes]))
            self.check_cheapest(net, (0,) * len(net))
        for _ in range(20):
            net = random_net(dice, 12, 5, dice.randint(0, 12), 6)
            self.check_cheapest(net, tuple([dice.randrange(5) for _ in net.pipes]))

    def test_more_than_twelve_meters(self):
        net = large_nets()[3]
        self.assertEqual(len(net.meters), 12)
        certificate = self.check_cheapest(net, tuple(range(12)))
        self.assertEqual(len(certificate), 8)

    def test_nothing_is_needed(self):
        self.assertEqual(self.check_cheapest(YARD, (1, 2, 3, 4, 5)), ())
        self.assertEqual(self.check_cheapest(Net.read("pipe p x y"), (0,)), ())

    def test_by_name(self):
        net = Net(YARD.pipes)
        claim, _ = check_by_name(self, certify_cheapest, net=net, prices=(5, 2, 2, 1, 3))
        self.assertEqual(claim, ("cheapest", str(net), (5, 2, 2, 1, 3), ("lout", "right")))


class TestErrors(unittest.TestCase):
    def calls(self, net):
        """The functions with arguments behind the net."""
        return [
            (certify_told, net, "src", (0, 0, 0)), (certify_rule, net, "src", RULE, (0, 0, 0)),
            (certify_readings, net, (0,) * 5), (certify_nets, net, YARD), (certify_cheapest, net, (0,) * 5),
        ]

    def test_no_net(self):
        for value in odd_values() + odd_tuples() + [(), Net, str(YARD), Sum(), RULE]:
            for call, *values in self.calls(value):
                check_given(self, NotANet, value, call, *values)
                check_given(self, NotANet, value, call, value, *[None for _ in values[1:]])
            check_given(self, NotANet, value, certify_nets, YARD, value)

    def test_no_pipe_of_the_net(self):
        for value in odd_values() + odd_tuples() + [(), "m1", "a", "srcs", YARD.pipes[0]]:
            check_given(self, UnknownName, value, certify_told, YARD, value, (0, 0, 0))
            check_given(self, UnknownName, value, certify_told, YARD, value, None)
            check_given(self, UnknownName, value, certify_rule, YARD, value, RULE, (0, 0, 0))
            check_given(self, UnknownName, value, certify_rule, YARD, value, None, None)

    def test_no_rule(self):
        for value in odd_values() + odd_tuples() + [(), "doubt", ("doubt",), Rule, YARD]:
            check_given(self, NotARule, value, certify_rule, YARD, "src", value, (0, 0, 0))
            check_given(self, NotARule, value, certify_rule, YARD, "src", value, None)
        self.assertEqual(raised(self, UnknownName, certify_rule, YARD, "src", Rule.read("tell z"), None).given, "z")

    def test_no_faults(self):
        for value in odd_faults():
            check_given(self, InvalidFaults, value, certify_told, YARD, "src", value)
            check_given(self, InvalidFaults, value, certify_rule, YARD, "src", RULE, value)

    def test_too_many(self):
        net, doubt = ring_with(2, (5, 5)), Rule.read("doubt")
        for faults in ((0, 3, 1), (0, 2, 2), (3, 3, 3)):
            self.assertEqual(raised(self, TooMany, certify_rule, net, "p0", doubt, faults).limit, 1000)
        check_given(self, InvalidFaults, (3, 2, 3), certify_rule, net, "p0", doubt, (3, 2, 3))
        self.assertEqual(certify_rule(net, "p0", doubt, (0, 2, 1))[0][0], "fools")
        self.assertEqual(certify_told(net, "p0", (3, 3, 3))[0][0], "tells")

    def test_no_readings(self):
        net = YARD + Meter("m2", "left", sealed=True)
        for value in odd_values() + odd_tuples() + [(), (0,) * 4, (0,) * 6, [0] * 5]:
            check_index(self, InvalidReadings, None, certify_readings, net, value)
        for other in ("0", True, False, (0,), [], 1j, SameAsAll(), Sour()):
            for at in range(5):
                check_index(self, InvalidReadings, at, certify_readings, net, (0,) * at + (other,) * (5 - at))
        check_index(self, InvalidReadings, 1, certify_readings, net, (None,) * 5)

    def test_other_meters(self):
        for one, two, name in ((YARD, YARD - "m4", "m4"), (YARD - "m3", YARD - "m1", "m1")):
            self.assertEqual(raised(self, OtherMeters, certify_nets, one, two).given, name)
            self.assertEqual(raised(self, OtherMeters, certify_nets, net=two, other=one).given, name)

    def test_no_prices(self):
        for value in odd_values() + [(), (0,) * 4, (0,) * 6, [0] * 5, ((0,) * 5,)]:
            check_index(self, InvalidPrices, None, certify_cheapest, YARD, value)
        for other in ("0", True, False, -1, None, (0,), 1j, SameAsAll(), Sour()):
            for at in range(5):
                check_index(self, InvalidPrices, at, certify_cheapest, YARD, (0,) * at + (other,) * (5 - at))

    def test_several_wrong_arguments(self):
        check_given(self, NotANet, 1, certify_rule, 1, 2, 3, 4)
        check_given(self, UnknownName, 2, certify_rule, YARD, 2, 3, 4)
        check_given(self, NotARule, 3, certify_rule, YARD, "src", 3, 4)
        check_given(self, InvalidFaults, 4, certify_rule, YARD, "src", RULE, 4)
        check_given(self, NotANet, 2, certify_nets, YARD, 2)


if __name__ == "__main__":
    unittest.main()
