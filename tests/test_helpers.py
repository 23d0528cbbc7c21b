import random
import unittest
from itertools import combinations

from ringvotes.knowing import Known, combined, difference, primitive
from ringvotes.pairs import all_pairs, greatest_pairs, subsets, unsealed
from ringvotes.rings import carries_ring, fitting_flow, joined, ring_closed, rings_of, split
from ringvotes.rules import Rule
from ringvotes.runs import TESTS, first_event, heard_steps, next_event
from tests.linear import Span, balances, fixed, pairs_of_sets, solvable
from tests.oracles import ALL_FAULTS, amount_at, grid, keeps, random_nets, ring_with


def value(line, point):
    """The value of a form at a point."""
    return sum(one * two for one, two in zip(line, point))


class TestRings(unittest.TestCase):
    def test_all_flows_are_sums_of_rings(self):
        for net in random_nets(180, 100, most_pipes=8) + [grid(), ring_with(12, (0,) * 12)]:
            rings = rings_of(net)
            kept, closing = split(net, net.pipes)
            self.assertEqual(len(rings), len(net.pipes) - len(Span(balances(net)).rows))
            for pipe, ring in zip(closing, rings):
                self.assertTrue(keeps(net, ring))
                self.assertEqual(ring, ring_closed(net, closing, pipe))
                self.assertEqual([amount_at(net, ring, other.name) for other in closing], [
                    int(other.name == pipe.name) for other in closing
                ])
            self.assertFalse(carries_ring(net, kept))
            self.assertTrue(all(carries_ring(net, kept + [pipe]) for pipe in closing))

    def test_fitting_flows(self):
        dice = random.Random(181)
        fitting = 0
        for net in random_nets(182, 300, most_pipes=7):
            names = dice.sample([pipe.name for pipe in net.pipes], dice.randint(0, len(net.pipes)))
            amounts = {name: dice.choice((0, 0, 1, -1, 4)) for name in names}
            flow = fitting_flow(net, amounts)
            self.assertEqual(flow is not None, solvable(fixed(net, list(amounts.items()))))
            if flow is not None:
                fitting += 1
                self.assertTrue(keeps(net, flow))
                self.assertEqual({name: amount_at(net, flow, name) for name in names}, amounts)
        self.assertTrue(50 < fitting < 280)

    def test_joined_places(self):
        for net in random_nets(183, 60, most_pipes=6):
            for pipes in combinations(net.pipes, min(3, len(net.pipes))):
                marks = joined(net, pipes)
                groups = [{place} for place in net.places]
                for pipe in pipes:
                    both = [group for group in groups if pipe.start in group or pipe.end in group]
                    groups = [group for group in groups if group not in both] + [set().union(*both)]
                for one, two in combinations(net.places, 2):
                    self.assertEqual(marks[one] == marks[two], any({one, two} <= group for group in groups))


class TestPairs(unittest.TestCase):
    def test_subsets(self):
        for many in range(5):
            self.assertEqual(subsets(("a", "b", "c", "d"), many), list(combinations("abcd", many)))
        self.assertEqual(subsets((), 1), [])
        self.assertEqual(subsets((), 0), [()])

    def test_all_pairs(self):
        for net in random_nets(184, 20, most_meters=7):
            names = unsealed(net)
            self.assertEqual(list(names), sorted([meter.name for meter in net.meters if not meter.sealed]))
            for wrong in range(4):
                for silent in range(4):
                    pairs = all_pairs(net, wrong, silent)
                    self.assertEqual(sorted(pairs), sorted(pairs_of_sets(net, wrong, silent)))
                    counts = [(len(one), len(two)) for one, two in pairs]
                    self.assertEqual(counts, sorted(counts))

    def test_greatest_pairs(self):
        for net in random_nets(185, 20, most_meters=6):
            for healed, noticed, silent in ALL_FAULTS:
                expected = []
                for wrong, hushed in pairs_of_sets(net, noticed, silent):
                    others = len(unsealed(net)) - len(hushed)
                    if len(wrong) in (min(healed, others), min(noticed, others)):
                        expected.append((wrong, hushed))
                found = greatest_pairs(net, (healed, noticed, silent))
                self.assertEqual(sorted(found), sorted(expected))


class TestKnown(unittest.TestCase):
    def test_points_fit_what_is_known(self):
        dice = random.Random(186)
        for _ in range(300):
            many = dice.randint(1, 5)
            known, equal, unlike = Known(many), Span(), []
            zero = []
            for _ in range(dice.randint(0, 8)):
                form = tuple([dice.choice((-2, -1, 0, 0, 0, 1, 1, 3)) for _ in range(many)])
                line = known.reduced(form)
                self.assertEqual(known.is_zero(line), equal.has(form))
                if equal.has(form):
                    continue
                forced = any(equal.more(form).has(other) for other in unlike)
                self.assertEqual(known.decided_by(line) is not None, forced)
                if not forced and dice.randrange(2):
                    known, equal = known.with_zero(line), equal.more(form)
                    zero.append(form)
                else:
                    known = known.with_unlike(line)
                    unlike.append(form)
            point = known.point_beside(None)
            self.assertEqual(len(point), many)
            self.assertTrue(all(value(form, point) == 0 for form in zero))
            self.assertTrue(all(value(form, point) != 0 for form in unlike))

    def test_what_decides(self):
        known = Known(3).with_zero((1, -1, 0)).with_unlike((0, 0, 2)).with_unlike((0, 4, 1))
        self.assertTrue(known.is_zero(known.reduced((2, -2, 0))))
        self.assertEqual(known.decided_by(known.reduced((1, -1, 3))), 0)
        self.assertEqual(known.decided_by(known.reduced((-4, 0, -1))), 1)
        self.assertIsNone(known.decided_by(known.reduced((4, 0, 2))))

    def test_lines(self):
        self.assertEqual(primitive((4, -6, 0)), (2, -3, 0))
        self.assertEqual(primitive((0, 0)), (0, 0))
        self.assertEqual(primitive(()), ())
        self.assertEqual(combined((1, 2), 3, (1, 0), -3), (0, 1))
        self.assertEqual(difference(((1, 2), (3, 2))), (-2, 0))


class TestRuns(unittest.TestCase):
    def test_steps_without_silent_sums_act_alike(self):
        text = "if a == b go 2\nvote 1: a, b + c, d, c\nif c == 0 go 4\ntell a\nvote 0: b, d\ntell a - d"
        steps = Rule.read(text).steps
        dice = random.Random(187)
        for silent in [list(names) for many in range(5) for names in combinations("abcd", many)]:
            heard = heard_steps(steps, silent)
            one, two = first_event(steps, silent), first_event(heard, ())
            for _ in range(20):
                self.assertEqual((one[0], one[1], one[3]), (two[0], two[1], two[3]))
                if one[0] != TESTS:
                    break
                answer = dice.randrange(2) == 0
                one, two = next_event(steps, silent, one, answer), next_event(heard, (), two, answer)

    def test_rows_to_which_a_run_comes(self):
        steps = Rule.read("if a == b go 3\nif c == c go 2\nvote 0: a, c\ntell b\ndoubt").steps
        event = first_event(steps, ())
        self.assertEqual(event[3], (0,))
        self.assertEqual(next_event(steps, (), event, True)[3], (3,))
        event = next_event(steps, (), event, False)
        self.assertEqual(event[3], (1,))
        event = next_event(steps, (), event, True)
        self.assertEqual((event[0], event[3]), (TESTS, (2,)))
        self.assertEqual(next_event(steps, (), event, True)[3], ())
        event = next_event(steps, (), event, False)
        self.assertEqual((event[0], event[3]), (TESTS, ()))
        self.assertEqual(next_event(steps, (), event, False)[3], (3,))
        self.assertEqual(first_event(steps, ("c", "a", "b"))[3], (0, 1, 2, 3))
        self.assertEqual(first_event(steps, ("c", "b"))[3], (0, 1, 2))


if __name__ == "__main__":
    unittest.main()
