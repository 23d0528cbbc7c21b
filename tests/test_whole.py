import random
import unittest

from ringvotes.additions import additions, cheapest
from ringvotes.books import Book
from ringvotes.certificates import certify_cheapest, certify_nets, certify_readings, certify_rule, certify_told
from ringvotes.checker import accepts
from ringvotes.compared import same_readings
from ringvotes.desks import Desk
from ringvotes.explaining import explanations, sure
from ringvotes.judging import alike, fooled, is_right, rows_used
from ringvotes.nets import Meter, Net
from ringvotes.rules import Rule, outcome
from ringvotes.strengths import can_tell, misleading, strength
from ringvotes.sums import Sum
from ringvotes.votes import is_vote, tally, votes, voting_rule
from ringvotes.worlds import is_flow, readings_of, silent_meters, value_of, wrong_meters
from tests.drawn import drawn_faults, drawn_readings, drawn_rule, ring_and_more, voting_rows
from tests.linear import fit, least_fooling, same_spans
from tests.oracles import (
    ALL_FAULTS,
    amount_at,
    expected_strength,
    grid,
    random_flow,
    random_nets,
    ring_with,
    unit_flows,
    world_counts,
)
from tests.test_additions import least_price
from tests.test_judging_errors import pairs
from tests.words import bends, fits

YARD = Net.read(
    "pipe src o a\npipe left a b\npipe right a c\npipe lout b o\npipe rout c o\n"
    "meter m1 src\nmeter m2 left\nmeter m3 right\nmeter m4 lout\nmeter m5 rout"
)


class TestGuarantees(unittest.TestCase):
    def test_all_answers_agree(self):
        dice = random.Random(230)
        for net in random_nets(231, 60, most_pipes=6, most_meters=6) + [YARD, grid(), ring_with(3, (2, 1, 1))]:
            free = len([meter for meter in net.meters if not meter.sealed])
            for pipe in dice.sample(net.pipes, min(2, len(net))):
                for faults in dice.sample(ALL_FAULTS, 4):
                    self.check_answers(net, pipe.name, faults, pairs(free, *faults[1:]) <= 1000)

    def check_answers(self, net, name, faults, judged):
        """Whether a pipe can be told is the same, in whatever way it is asked."""
        told = (str(net), name, faults)
        least = strength(net, name)
        possible = least is None or least > sum(faults)
        self.assertIs(can_tell(net, name, faults), possible, told)
        self.assertIs(misleading(net, name, faults) is None, possible, told)
        self.assertEqual(certify_told(net, name, faults)[0][0], "tells" if possible else "misleads", told)
        rule = voting_rule(net, name, faults)
        self.assertIs(rule is not None, possible, told)
        known = votes(net, name)
        self.assertEqual(len(known), 1 if least is None else least, told)
        self.assertTrue(all(is_vote(net, name, total) for total in known), told)
        if not judged:
            return
        if rule is not None:
            self.assertTrue(is_right(net, name, rule, faults), told)
            self.assertIsNone(fooled(net, name, rule, faults), told)
            self.assertEqual(certify_rule(net, name, rule, faults)[0][0], "right", told)
            self.assertIn(0, rows_used(net, rule, wrong=faults[1], silent=faults[2]))
        if 0 < len(known) <= 10:
            # A rule of all votes is right if any way of telling is, and no rule is right otherwise.
            world = fooled(net, name, Rule.voting(faults[0], *known), faults)
            self.assertIs(world is None, possible, told)

    def test_no_rule_is_right_where_a_pipe_cannot_be_told(self):
        dice = random.Random(232)
        for net in [ring_and_more(dice, 5) for _ in range(150)]:
            name, faults = dice.choice(net.pipes).name, drawn_faults(dice)
            if not can_tell(net, name, faults):
                for rule in (drawn_rule(dice, net, name), voting_rows(dice, net, name, faults)):
                    self.assertFalse(is_right(net, name, rule, faults))
                    # One of the two worlds that mislead fools the rule, too.
                    told = outcome(net, rule, misleading(net, name, faults)[0][1])
                    one, two = [amount_at(net, flow, name) for flow, _ in misleading(net, name, faults)]
                    self.assertTrue(told != one or told != two)

    def test_right_rules_tell_what_is_sure(self):
        dice = random.Random(233)
        for _ in range(80):
            net = ring_and_more(dice, 6)
            name, faults = dice.choice(net.pipes).name, drawn_faults(dice)
            rule = voting_rule(net, name, faults)
            readings = drawn_readings(dice, net)
            if rule is None or readings.count(None) > faults[2] or not explanations(net, readings, faults[0]):
                continue
            self.assertEqual(outcome(net, rule, readings), sure(net, readings, name, faults[0]))

    def test_right_rules_are_alike_in_the_worlds_that_they_heal(self):
        dice = random.Random(234)
        for _ in range(60):
            net = ring_and_more(dice, 5)
            name, faults = dice.choice(net.pipes).name, drawn_faults(dice)
            rules = [voting_rows(dice, net, name, faults) for _ in range(2)]
            if all(is_right(net, name, rule, faults) for rule in rules):
                self.assertTrue(alike(net, *rules, wrong=faults[0], silent=faults[2]))

    def test_desks_tell_what_the_other_modules_do(self):
        dice = random.Random(235)
        for net in random_nets(236, 30, most_meters=5):
            desk = Desk(net)
            for _ in range(3):
                readings = drawn_readings(dice, net)
                desk.note(**dict(zip([meter.name for meter in net.meters], readings)))
                self.assertEqual(desk.readings, readings)
                self.assertEqual(certify_readings(net, desk.readings) is None, desk.explanations(0) == ((),))


class TestAcceptedClaims(unittest.TestCase):
    """Whatever is accepted is true, judged by searches."""

    def is_true(self, claim):
        """Whether a claim is true, found by trying all flows of -1, 0 and 1 or by linear algebra."""
        word, net = claim[0], Net.read(claim[1])
        if word in ("tells", "misleads"):
            least = expected_strength(net, claim[2], unit_flows(net))
            return (least is None or least > sum(claim[3])) == (word == "tells")
        if word in ("right", "fools"):
            return (least_fooling(net, claim[2], claim[3].split("\n"), claim[4]) is None) == (word == "right")
        if word == "clash":
            return not fit(net, claim[2])
        if word == "cheapest":
            cost = {pipe.name: price for pipe, price in zip(net.pipes, claim[2])}
            return sum([cost[name] for name in claim[3]]) == least_price(net, claim[2])
        return same_spans(net, Net.read(claim[2])) == (word == "same")

    def check_all(self, claims, certificates):
        """Each certificate for each claim: what is accepted fits the words and is true."""
        accepted = 0
        for claim in claims:
            true = None
            for certificate in certificates:
                found = accepts(claim, certificate)
                self.assertIs(found, fits(claim, certificate), (claim, certificate))
                if found:
                    accepted += 1
                    true = self.is_true(claim) if true is None else true
                    self.assertTrue(true, (claim, certificate))
        return accepted

    def test_told(self):
        dice = random.Random(240)
        accepted = 0
        for net in random_nets(241, 25, most_pipes=5, most_meters=5):
            names = [pipe.name for pipe in net.pipes]
            made = [certify_told(net, dice.choice(names), faults) for faults in dice.sample(ALL_FAULTS, 4)]
            claims = [
                (word, str(net), name, faults) for word in ("tells", "misleads")
                for name in names[:3] for faults in dice.sample(ALL_FAULTS, 4) + [claim[3] for claim, _ in made]
            ]
            accepted += self.check_all(claims, [certificate for _, certificate in made])
        self.assertGreater(accepted, 100)

    def test_rules(self):
        dice = random.Random(242)
        accepted = 0
        for _ in range(40):
            net = ring_and_more(dice, 4)
            name, faults = net.pipes[0].name, drawn_faults(dice)
            rules = [voting_rows(dice, net, name, faults) for _ in range(2)] + [drawn_rule(dice, net, name)]
            made = [certify_rule(net, name, rule, faults) for rule in rules]
            made += [certify_rule(net, name, rules[0], (0, 1, 0)), certify_rule(net, name, rules[0], (0, 0, 1))]
            claims = [
                (word, str(net), pipe.name, str(rule), each) for word in ("right", "fools") for pipe in net.pipes[:2]
                for rule in rules for each in (faults, (0, 1, 0), (0, 0, 1), (1, 1, 0))
            ]
            accepted += self.check_all(claims, [certificate for _, certificate in made])
        self.assertGreater(accepted, 100)

    def test_readings_and_nets_and_prices(self):
        dice = random.Random(243)
        accepted = 0
        nets = random_nets(244, 40, most_pipes=5, most_meters=4, seals=3)
        for net in nets:
            other = dice.choice(nets)
            other = Net(other.pipes, tuple([Meter(meter.name, dice.choice(other.pipes).name) for meter in net.meters]))
            seen = [drawn_readings(dice, net) for _ in range(4)]
            made = [certify_readings(net, readings) for readings in seen]
            made += [certify_nets(net, other), certify_nets(other, net), certify_nets(net, net)]
            prices = [tuple([dice.randrange(4) for _ in net.pipes]) for _ in range(3)]
            made += [certify_cheapest(net, price) for price in prices]
            claims = [("clash", str(net), readings) for readings in seen]
            claims += [(word, str(one), str(two)) for word in ("same", "differ") for one in (net, other)
                       for two in (net, other)]
            claims += [("cheapest", str(net), price, cheapest(net, another)) for price in prices for another in prices]
            accepted += self.check_all(claims, [pair[1] for pair in made if pair is not None])
        self.assertGreater(accepted, 200)

    def test_bent_claims_and_certificates(self):
        dice = random.Random(245)
        for net in random_nets(246, 12, most_pipes=3, most_meters=3):
            name, faults = net.pipes[0].name, drawn_faults(dice, most=1)
            pairs_made = [
                certify_told(net, name, faults), certify_cheapest(net, tuple(range(len(net)))), certify_nets(net, net),
                certify_readings(net, tuple([1] * len(net.meters))),
            ]
            if net.meters:
                pairs_made.append(certify_rule(net, name, voting_rows(dice, net, name, faults), faults))
            for claim, certificate in [pair for pair in pairs_made if pair is not None]:
                true = {}
                for other, bent in [(claim, bent) for bent in bends(certificate)] + [(other, certificate) for other in bends(claim)]:
                    found = accepts(other, bent)
                    self.assertIs(found, fits(other, bent), (other, bent))
                    if found and other not in true:
                        true[other] = self.is_true(other)
                    self.assertTrue(not found or true[other], (other, bent))


class TestReturnedValues(unittest.TestCase):
    """Values that the package has returned are passed on."""

    def test_large_sums_and_rules(self):
        total = Sum.read("m1")
        for _ in range(12):
            total = total * (10 ** 39) + Sum.read("m2")
        rule = Rule.voting(0, total, total - total, Sum.read("m1"))
        self.assertEqual(Rule.read(str(rule)), rule)
        self.assertEqual(value_of(YARD, total - Sum.read("m2"), (1, 0, 0, 0, 0)), 10 ** (39 * 12))
        world = fooled(YARD, "src", rule, (0, 0, 0))
        self.assertEqual(world_counts(YARD, world), (0, 0))
        self.assertTrue(accepts(*certify_rule(YARD, "src", rule, (0, 0, 0))))
        other = Rule.voting(0, total, total)
        self.assertTrue(alike(YARD, other, Rule.voting(1, total, total, total)))
        self.assertTrue(accepts(*certify_rule(YARD, "src", Rule(other.rows[:1] + ("tell m1",)), (0, 0, 1))))
        net = Net.read("pipe p a b\nmeter m1 p\nmeter m2 p")
        claim, certificate = certify_rule(net, "p", rule, (0, 0, 0))
        self.assertEqual((claim[0], accepts(claim, certificate)), ("right", True))

    def test_worlds_and_flows(self):
        dice = random.Random(250)
        for net in random_nets(251, 40, most_meters=5):
            name = net.pipes[0].name
            worlds = misleading(net, name, (0, 1, 1))
            for world in worlds or ():
                self.assertTrue(is_flow(net, world[0]))
                self.assertLessEqual(len(wrong_meters(net, world)) + len(silent_meters(net, world)), 2)
                self.assertEqual(len(tally(net, name, world[1])), strength(net, name))
                self.assertTrue(explanations(net, world[1], 1))
                sure(net, world[1], name, 1)
            rule = drawn_rule(dice, net, name)
            world = fooled(net, name, rule, (0, 1, 0))
            if world is not None:
                self.assertTrue(accepts(("fools", str(net), name, str(rule), (0, 1, 0)), world))
                self.assertEqual(readings_of(net, world[0]), readings_of(net, world[0]))

    def test_deep_certificates(self):
        # Each test may say either: twenty deep in one another, and each run to its end.
        names = [f"m{index}" for index in range(7)]
        net = Net.read("pipe p x y\npipe q y x\n" + "\n".join([f"meter {name} p" for name in names]) + "\nmeter s q sealed")
        rule = Rule(("vote 0: " + ", ".join(names), "vote 2: " + ", ".join(names[::-1]), "tell s"))
        claim, certificate = certify_rule(net, "p", rule, (0, 0, 0))
        self.assertEqual((claim[0], accepts(claim, certificate)), ("right", True))
        for faults in ((0, 3, 0), (1, 2, 1)):
            claim, certificate = certify_rule(net, "p", rule, faults)
            self.assertTrue(accepts(claim, certificate))
        parts = [f"if {name} == s go 7" for name in names]
        rule = Rule(tuple(parts) + ("tell s",))
        self.assertTrue(accepts(*certify_rule(net, "p", rule, (0, 3, 1))))

    def test_books_of_returned_values(self):
        book = Book()
        net = YARD
        for index, name in enumerate(("src", "left", "rout")):
            offers = (Meter(f"m{6 + index}", name), Meter("m9", name, sealed=True))
            for chosen in additions(net, offers, ((name, (1, 1, 1)),))[0]:
                net = net + offers[chosen]
            book["net"] = net
            book[f"rule{index}"] = voting_rule(net, name, (1, 1, 0))
            book.wish(("right", "net", name, f"rule{index}", (1, 1, 0)))
        self.assertEqual((book.changes, len(book.wishes)), (9, 3))
        for index, (_, _, pipe, rule, faults) in enumerate(book.wishes):
            self.assertTrue(is_right(book["net"], pipe, book[rule], faults), index)
        self.assertTrue(same_readings(book["net"], book["net"]))

    def test_arguments_stay_as_they_are(self):
        net, rule = Net.read(str(YARD)), Rule.read("vote 0: m1, m2 + m3\ndoubt")
        text, rows = str(net), rule.rows
        flow = random_flow(random.Random(252), net, 5)
        for _ in range(2):
            certify_rule(net, "src", rule, (0, 1, 0))
            certify_nets(net, net)
            desk = Desk(net)
            desk.note(m1=4, m2=1)
            desk.outcome(rule)
            book = Book()
            book["net"] = net
            book["rule"] = rule
            book.wish(("right", "net", "src", "rule", (0, 1, 0)))
            explanations(net, readings_of(net, flow), 3)
        self.assertEqual((str(net), rule.rows, net == YARD), (text, rows, True))

    def test_equal_calls_have_equal_results(self):
        for _ in range(2):
            net = Net.read(str(grid()))
            rule = voting_rule(net, "h00", (1, 1, 0))
            self.assertEqual(certify_rule(net, "h00", rule, (1, 1, 0)), certify_rule(grid(), "h00", rule, (1, 1, 0)))
            self.assertEqual(fooled(net, "h00", rule, (2, 2, 0)), fooled(grid(), "h00", Rule(rule.rows), (2, 2, 0)))


if __name__ == "__main__":
    unittest.main()
