import random
import unittest

from ringvotes.compared import parting_flow, same_readings
from ringvotes.errors import NotANet, OtherMeters
from ringvotes.nets import Meter, Net, Pipe
from ringvotes.sums import Sum
from tests.linear import fit, same_spans
from tests.oracles import amount_at, grid, keeps, random_nets, ring_with
from tests.support import check_by_name, check_given, odd_tuples, odd_values, raised

YARD = Net.read(
    "pipe src o a\npipe left a b\npipe right a c\npipe lout b o\npipe rout c o\n"
    "meter m1 src\nmeter m2 left\nmeter m3 right\nmeter m4 lout\nmeter m5 rout"
)
THREE = Net.read("pipe p a b\npipe q b c\npipe r c a\nmeter k p\nmeter m r")
BACK = Net.read("pipe p a b\npipe q b a\npipe r a b\nmeter k p\nmeter m r")


def shuffled(dice, net):
    """The net with its pipes and meters in another order and other names of pipes and places."""
    pipes = [Pipe(f"u{pipe.name}", f"v{pipe.end}v", f"v{pipe.start}v") for pipe in net.pipes]
    meters = [Meter(meter.name, f"u{meter.at}", sealed=dice.randrange(2) == 0) for meter in net.meters]
    # All pipes turned round: the flows are those of the net with their signs turned.
    return Net(tuple(dice.sample(pipes, len(pipes))), tuple(dice.sample(meters, len(meters))))


def with_pipes(net, change):
    """The net with what a function makes of each pipe in its place."""
    return Net(tuple([made for pipe in net.pipes for made in change(pipe)]), net.meters)


def parted(net, name):
    """The net in which a pipe is parted in two; its meters stand at the first part."""
    return with_pipes(net, lambda pipe: [pipe] if pipe.name != name else [
        Pipe(name, pipe.start, "middle"), Pipe("rest", "middle", pipe.end)
    ])


def turned(net, name):
    """The net in which a pipe is turned round."""
    return with_pipes(net, lambda pipe: [pipe] if pipe.name != name else [Pipe(name, pipe.end, pipe.start)])


def moved(net, name, at):
    """The net in which a meter stands at another pipe."""
    return net + Meter(name, at)


def shrunk(net, name):
    """The net in which a pipe is left out and its ends are one place; None if a pipe would lead to where it starts."""
    gone = net.pipe(name)
    pipes = []
    for pipe in net.pipes:
        ends = [gone.start if end == gone.end else end for end in (pipe.start, pipe.end)]
        if pipe.name != name and ends[0] != ends[1]:
            pipes.append(Pipe(pipe.name, *ends))
    meters = [meter for meter in net.meters if meter.at in [pipe.name for pipe in pipes]]
    fits = len(pipes) == len(net.pipes) - 1 and len(meters) == len(net.meters) and pipes
    return Net(tuple(pipes), tuple(meters)) if fits else None


class TestCompared(unittest.TestCase):
    def check(self, net, other, expected=None):
        same = same_spans(net, other)
        told = (str(net), str(other))
        if expected is not None:
            self.assertIs(same, expected, told)
        for one, two in ((net, other), (other, net)):
            self.assertIs(same_readings(one, two), same, told)
            found = parting_flow(one, two)
            if same:
                self.assertIsNone(found, told)
                continue
            self.assertEqual((found.__class__, len(found)), (tuple, 2))
            which, flow = found
            self.assertIn((which, which.__class__), ((0, int), (1, int)))
            has, lacks = ((one, two), (two, one))[which]
            self.assertTrue(len(flow) == len(has.pipes) and keeps(has, flow), told)
            seen = {meter.name: amount_at(has, flow, meter.at) for meter in has.meters}
            self.assertFalse(fit(lacks, tuple([seen[meter.name] for meter in lacks.meters])), told)

    def test_drawn_nets(self):
        dice = random.Random(170)
        same = {True: 0, False: 0}
        nets = random_nets(171, 150, most_pipes=6, most_meters=5)
        for net in nets:
            other = dice.choice(nets)
            names = [meter.name for meter in net.meters]
            pipes = [pipe.name for pipe in other.pipes]
            other = Net(other.pipes, tuple([Meter(name, dice.choice(pipes)) for name in dice.sample(names, len(names))]))
            self.check(net, other)
            same[same_readings(net, other)] += 1
        self.assertTrue(min(same.values()) > 10, same)

    def test_order_and_names_and_seals(self):
        dice = random.Random(172)
        for net in random_nets(173, 100, most_pipes=7, most_meters=7) + [YARD, grid()]:
            self.check(net, shuffled(dice, net), True)
            self.check(net, net, True)

    def test_pipes_turned_round_and_parted(self):
        dice = random.Random(174)
        for net in random_nets(175, 100, most_pipes=6, most_meters=6):
            name = dice.choice(net.pipes).name
            self.check(net, parted(net, name), True)
            self.check(net, turned(net, name))
        self.check(YARD, turned(YARD, "left"), False)
        self.check(YARD, turned(YARD - "m2", "left") + Meter("m2", "src"), False)
        self.check(YARD - "m2", turned(YARD - "m2", "left"), True)
        self.check(Net.read("pipe p a b\nmeter m p"), Net.read("pipe p b a\nmeter m p"), True)

    def test_meters_moved_and_pipes_shrunk(self):
        dice = random.Random(176)
        shrinking = 0
        for net in random_nets(177, 150, most_pipes=6, most_meters=6):
            if net.meters:
                self.check(net, moved(net, dice.choice(net.meters).name, dice.choice(net.pipes).name))
            other = shrunk(net, dice.choice(net.pipes).name)
            if other is not None:
                shrinking += 1
                self.check(net, other, True)
        self.assertGreater(shrinking, 15)
        self.check(YARD, moved(YARD, "m2", "lout"), True)
        self.check(YARD, moved(YARD, "m2", "right"), False)
        self.check(YARD - "m4", shrunk(YARD - "m4", "lout"), True)
        self.check(YARD - "m1", shrunk(YARD - "m1", "src"), True)
        # A pipe that is taken away is another matter.
        self.check(YARD - "m4", Net(tuple([pipe for pipe in YARD.pipes if pipe.name != "lout"]), (YARD - "m4").meters), False)

    def test_just_one_has_further_readings(self):
        self.check(THREE, BACK, False)
        self.assertEqual((parting_flow(THREE, BACK)[0], parting_flow(BACK, THREE)[0]), (1, 0))
        still = Net.read("pipe p a b\npipe r b c\nmeter k p\nmeter m r")
        self.check(THREE, still, False)
        self.assertEqual((parting_flow(THREE, still)[0], parting_flow(still, THREE)[0]), (0, 1))

    def test_each_has_readings_that_the_other_one_has_not(self):
        other = Net.read("pipe p a b\npipe r a b\nmeter k p\nmeter m r")
        self.check(THREE, other, False)

    def test_the_document(self):
        other = Net.read("pipe s b c\npipe t a b\npipe u c a\nmeter m s\nmeter k t")
        self.check(THREE, other, True)

    def test_nets_without_meters_and_rings(self):
        line = Net.read("pipe p x y")
        self.check(line, Net.read("pipe p x y\npipe q y x"), True)
        self.check(line, Net(grid().pipes), True)
        self.check(line + Meter("m", "p"), Net.read("pipe p x y\npipe q y z\nmeter m q sealed"), True)
        self.check(line + Meter("m", "p"), Net.read("pipe p x y\npipe q y x\nmeter m q"), False)
        self.check(ring_with(12, (1,) * 12), ring_with(12, (1,) * 12), True)

    def test_several_meters_at_a_pipe(self):
        one = Net.read("pipe p x y\npipe q y x\nmeter a p\nmeter b p\nmeter c q")
        self.check(one, Net.read("pipe p x y\npipe q y x\nmeter a p\nmeter b q\nmeter c q"), True)
        self.check(one, Net.read("pipe p x y\npipe q y x\npipe r x y\nmeter a p\nmeter b p\nmeter c q"), False)
        self.check(one, Net.read("pipe p x y\nmeter a p\nmeter b p\nmeter c p"), False)

    def test_by_name(self):
        self.assertIs(check_by_name(self, same_readings, net=THREE, other=THREE), True)
        self.assertIsNone(check_by_name(self, parting_flow, net=THREE, other=THREE))


class TestErrors(unittest.TestCase):
    def test_no_net(self):
        for value in odd_values() + odd_tuples() + [(), Net, str(YARD), Sum(), YARD.pipes]:
            for call in (same_readings, parting_flow):
                check_given(self, NotANet, value, call, value, YARD)
                check_given(self, NotANet, value, call, YARD, value)
                check_given(self, NotANet, value, call, value, None)
                check_given(self, NotANet, value, call, other=value, net=THREE)

    def test_other_meters(self):
        for one, two, name in (
            (YARD, THREE, "k"), (YARD, YARD - "m3", "m3"), (YARD - "m3", YARD - "m2", "m2"), (YARD, YARD - "m5" - "m1", "m1"),
            (THREE, THREE + Meter("a9", "q"), "a9"), (THREE, THREE + Meter("l", "q"), "l"),
            (THREE - "k" - "m", THREE, "k"), (THREE - "k" + Meter("k10", "q") + Meter("k9", "q"), THREE - "k", "k10"),
        ):
            for call in (same_readings, parting_flow):
                self.assertEqual(raised(self, OtherMeters, call, one, two).given, name)
                self.assertEqual(raised(self, OtherMeters, call, two, one).given, name)

    def test_several_wrong_arguments(self):
        for call in (same_readings, parting_flow):
            check_given(self, NotANet, 1, call, 1, 2)
            check_given(self, NotANet, 2, call, YARD, 2)


if __name__ == "__main__":
    unittest.main()
