import random
import unittest
from itertools import combinations

from ringvotes.additions import additions, cheapest
from ringvotes.errors import InvalidOffers, InvalidPrices, InvalidWishes, NotANet
from ringvotes.nets import Meter, Net, Pipe
from ringvotes.strengths import can_tell
from ringvotes.sums import Sum
from tests.drawn import drawn_faults
from tests.oracles import amount_at, grid, random_net, random_nets, ring_with, unit_flows
from tests.support import (
    SameAsAll,
    Sour,
    check_by_name,
    check_given,
    check_index,
    odd_faults,
    odd_tuples,
    odd_values,
)

LINES = "pipe src o a\npipe left a b\npipe right a c\npipe lout b o\npipe rout c o"
YARD = Net.read(LINES + "\nmeter m1 src\nmeter m2 left\nmeter m3 right\nmeter m4 lout\nmeter m5 rout")
BIG = 10 ** 29


def with_offers(net, offers):
    """The net with some offers, each in the place of the meter with its name or behind the others."""
    meters = list(net.meters)
    for offer in offers:
        names = [meter.name for meter in meters]
        if offer.name in names:
            meters[names.index(offer.name)] = offer
        else:
            meters.append(offer)
    return Net(net.pipes, tuple(meters))


def least_sets(net, offers, wishes):
    """All least sets of offers that grant the wishes, found by trying all of them."""
    sets = [chosen for many in range(len(offers) + 1) for chosen in combinations(range(len(offers)), many)]
    granting = []
    for chosen in sets:
        other = with_offers(net, [offers[index] for index in chosen])
        if all(can_tell(other, *wish) for wish in wishes):
            granting.append(chosen)
    return tuple([
        chosen for chosen in granting if not any(set(less) < set(chosen) for less in granting)
    ])


def is_enough(net, names, flows):
    """Whether each pipe can be told for (0, 0, 0) with a meter more at each of these pipes."""
    metered = {meter.at for meter in net.meters} | set(names)
    return all(any(amount_at(net, flow, name) for name in metered) for flow in flows if any(flow))


def least_price(net, prices):
    """The least total price of a set of pipes without meters that is enough."""
    flows = unit_flows(net)
    costs = {pipe.name: price for pipe, price in zip(net.pipes, prices)}
    bare = [pipe.name for pipe in net.pipes if pipe.name not in [meter.at for meter in net.meters]]
    return min([
        sum([costs[name] for name in names])
        for many in range(len(bare) + 1) for names in combinations(bare, many) if is_enough(net, names, flows)
    ])


class TestAdditions(unittest.TestCase):
    def check(self, net, offers, wishes, expected=None):
        least = least_sets(net, offers, wishes)
        told = (str(net), [(offer.name, offer.at, offer.sealed) for offer in offers], wishes)
        self.assertEqual(additions(net, offers, wishes), least, told)
        if expected is not None:
            self.assertEqual(least, expected, told)

    def test_drawn_offers(self):
        dice = random.Random(150)
        many = {}
        for net in random_nets(151, 250, most_pipes=5, most_meters=5, seals=7):
            known = [meter.name for meter in net.meters] + [f"n{index}" for index in range(6)]
            offers = tuple([
                Meter(name, dice.choice(net.pipes).name, sealed=dice.randrange(4) == 0)
                for name in dice.sample(known, dice.randint(0, 6))
            ])
            wishes = tuple([
                (dice.choice(net.pipes).name, drawn_faults(dice)) for _ in range(dice.choice((0, 1, 1, 2, 3)))
            ])
            self.check(net, offers, wishes)
            for chosen in additions(net, offers, wishes):
                many[len(chosen)] = many.get(len(chosen), 0) + 1
        self.assertTrue(all(many.get(size, 0) > 3 for size in range(4)), many)

    def test_the_yard(self):
        wish = (("src", (1, 1, 1)),)
        self.check(YARD, (Meter("m6", "src"), Meter("m2", "left", sealed=True)), wish, ((0,),))
        self.check(YARD, (Meter("m6", "left"), Meter("m7", "right"), Meter("m1", "src", sealed=True)), wish, ((2,), (0, 1)))
        self.check(YARD, (Meter("m6", "left"), Meter("m2", "left", sealed=True)), wish, ())
        self.check(YARD, (Meter("m2", "left", sealed=True), Meter("m5", "rout", sealed=True)), wish, ((0, 1),))

    def test_offers_that_move_a_meter(self):
        # Moved away from the pipe, the meter leaves it; offers that come with it make up for that.
        net = Net.read("pipe p x y\npipe q y x\nmeter a p\nmeter b q")
        wish = (("p", (0, 0, 1)),)
        self.check(net, (Meter("a", "q"),), wish, ((),))
        net = Net.read("pipe p x y\npipe q y x\npipe r y x\nmeter a p")
        wish = (("p", (0, 0, 0)), ("q", (0, 0, 0)))
        self.check(net, (Meter("a", "q"),), wish, ())
        self.check(net, (Meter("a", "q"), Meter("b", "r")), wish, ((1,),))
        self.check(net, (Meter("a", "q"), Meter("b", "p")), wish, ((0, 1),))

    def test_more_offers_need_not_grant_what_fewer_do(self):
        net = Net.read("pipe p x y\npipe q y x\nmeter a p\nmeter s q sealed")
        wish = (("p", (3, 3, 3)),)
        self.check(net, (Meter("s", "q"), Meter("b", "p", sealed=True)), wish, ((),))
        net = Net.read("pipe p x y\npipe q y x\nmeter a p\nmeter s q")
        offers = (Meter("s", "q", sealed=True), Meter("a", "q"), Meter("b", "p"))
        self.check(net, offers, (("p", (0, 1, 1)),), ((0,), (2,)))
        net = Net.read("pipe p x y\npipe q y x\npipe r y x\nmeter a p\nmeter b q")
        # b tells the pipe only where it is; c only helps where b has gone.
        self.check(net, (Meter("b", "r"), Meter("c", "q"), Meter("d", "p")), (("p", (0, 1, 0)), ("q", (0, 1, 0))))
        self.check(net, (Meter("b", "r"), Meter("c", "q")), (("q", (0, 0, 0)), ("r", (0, 0, 0))), ((),))

    def test_meters_that_are_no_longer_sealed(self):
        net = Net.read("pipe p x y\npipe q y x\nmeter s p sealed")
        offers = (Meter("s", "p"), Meter("t", "p"), Meter("u", "q", sealed=True))
        self.check(net, offers, (("p", (0, 0, 1)),), ((),))
        moved = (Meter("s", "q", sealed=True),)
        self.check(net, moved, (("q", (3, 3, 3)), ("p", (3, 3, 3))), ((),))

    def test_offers_that_are_granted_only_together(self):
        net = Net.read("pipe p x y\npipe q y x")
        offers = tuple([Meter(f"n{index}", "pq"[index % 2]) for index in range(6)])
        self.check(net, offers, (("p", (1, 1, 0)),), tuple(combinations(range(6), 3)))
        self.check(net, offers, (("p", (2, 2, 1)),), ((0, 1, 2, 3, 4, 5),))
        self.check(net, offers, (("p", (2, 2, 2)),), ())
        self.check(net, offers, (("p", (0, 0, 0)),), tuple([(index,) for index in range(6)]))

    def test_wishes_that_hold_already_and_no_wishes(self):
        offers = (Meter("m6", "src"), Meter("m2", "left", sealed=True))
        for wishes in ((), (("src", (0, 0, 0)),), (("src", (1, 1, 0)), ("left", (0, 1, 0)))):
            self.check(YARD, offers, wishes, ((),))
            self.check(YARD, (), wishes, ((),))
        self.check(Net.read("pipe p x y"), (), (("p", (3, 3, 3)),), ((),))

    def test_wishes_that_cannot_be_granted(self):
        self.check(YARD, (), (("src", (1, 1, 1)),), ())
        self.check(YARD, (Meter("m6", "left"),), (("src", (1, 1, 1)),), ())
        self.check(Net.read("pipe p x y\npipe q y x"), (Meter("m", "p"),), (("q", (0, 0, 1)),), ())

    def test_several_wishes(self):
        offers = (Meter("a", "src"), Meter("b", "left"), Meter("c", "lout"), Meter("d", "rout", sealed=True))
        wishes = (("src", (1, 1, 1)), ("lout", (0, 2, 1)))
        self.check(YARD, offers, wishes)
        self.check(YARD, offers, wishes + wishes)
        self.check(YARD, offers, wishes[::-1])

    def test_twelve_meters(self):
        net = ring_with(2, (5, 6))
        offers = (Meter("new", "p0"), Meter("m0n0", "p1"), Meter("m1n0", "p1", sealed=True))
        self.check(net, offers, (("p0", (3, 3, 3)),), ((),))
        self.check(net - "m0n1" - "m0n2", offers, (("p0", (3, 3, 3)),), ((0,), (2,)))

    def test_by_name(self):
        offers = (Meter("m6", "src"),)
        self.assertEqual(check_by_name(self, additions, net=YARD, offers=offers, wishes=(("src", (1, 1, 1)),)), ((0,),))


class TestCheapest(unittest.TestCase):
    def check(self, net, prices):
        found = cheapest(net, prices)
        flows = unit_flows(net)
        told = (str(net), prices, found)
        self.assertIs(found.__class__, tuple)
        self.assertEqual(list(found), sorted(set(found)), told)
        costs = {pipe.name: price for pipe, price in zip(net.pipes, prices)}
        metered = [meter.at for meter in net.meters]
        self.assertTrue(all(name in costs and name not in metered for name in found), told)
        self.assertTrue(is_enough(net, found, flows), told)
        for name in found:
            self.assertFalse(is_enough(net, [other for other in found if other != name], flows), told)
        self.assertEqual(sum([costs[name] for name in found]), least_price(net, prices), told)

    def test_drawn_prices(self):
        dice = random.Random(160)
        for net in random_nets(161, 200, most_pipes=7, most_meters=3):
            self.check(net, tuple([dice.choice((0, 0, 1, 1, 2, 5, BIG, BIG + 1)) for _ in net.pipes]))
        for _ in range(10):
            net = random_net(dice, 9, 5, dice.randint(0, 2), 6)
            self.check(net, tuple([dice.randrange(10 ** 30) for _ in net.pipes]))

    def test_the_document(self):
        self.assertEqual(cheapest(Net.read(LINES), (5, 2, 2, 1, 3)), ("lout", "right"))
        self.check(Net.read(LINES), (5, 2, 2, 1, 3))
        self.assertEqual(cheapest(YARD, (5, 2, 2, 1, 3)), ())

    def test_prices_of_zero_leave_no_pipe_too_many(self):
        for pipes in range(2, 7):
            net = Net(tuple([Pipe(f"p{index}", "x", "y") for index in range(pipes)]))
            self.check(net, (0,) * pipes)
            self.assertEqual(len(cheapest(net, (0,) * pipes)), pipes - 1)
            self.assertEqual(cheapest(net, (1,) + (0,) * (pipes - 1)), tuple([f"p{at}" for at in range(1, pipes)]))
        self.check(ring_with(5, (0,) * 5), (0,) * 5)
        self.assertEqual(len(cheapest(ring_with(5, (0,) * 5), (0,) * 5)), 1)

    def test_no_ring_needs_a_meter(self):
        self.assertEqual(cheapest(Net.read("pipe p x y"), (0,)), ())
        self.assertEqual(cheapest(Net.read("pipe p x y\npipe q y z"), (4, 0)), ())
        self.assertEqual(cheapest(grid(), (1,) * 12), ())
        self.assertEqual(cheapest(Net.read("pipe p x y\npipe q y x\nmeter s q sealed"), (0, 0)), ())

    def test_twelve_meters_that_need_one_more(self):
        pipes = tuple([Pipe(f"p{index}", *("xy" if index % 2 else "yx")) for index in range(5)])
        net = Net(pipes, tuple([Meter(f"m{index}", f"p{index % 3}") for index in range(12)]))
        self.assertEqual(cheapest(net, (9, 9, 9, 2, 3)), ("p3",))
        self.assertEqual(cheapest(net, (9, 9, 9, 3, 2)), ("p4",))
        self.assertEqual(len(cheapest(net, (0, 0, 0, 3, 3))), 1)

    def test_names_are_ascending(self):
        net = Net(tuple([Pipe(name, "x", "y") for name in ("q9", "b", "q10", "a1", "z")]))
        self.assertEqual(cheapest(net, (1, 1, 1, 1, 5)), ("a1", "b", "q10", "q9"))

    def test_prices_of_many_digits(self):
        net = ring_with(4, (0,) * 4)
        self.assertEqual(cheapest(net, (BIG + 3, BIG + 1, BIG + 2, BIG + 4)), ("p1",))
        self.check(net, (10 ** 30 - 1,) * 4)

    def test_by_name(self):
        self.assertEqual(
            check_by_name(self, cheapest, net=Net.read(LINES), prices=(5, 2, 2, 1, 3)), ("lout", "right")
        )


class TestErrors(unittest.TestCase):
    def test_no_net(self):
        for value in odd_values() + odd_tuples() + [(), Net, str(YARD), Sum()]:
            check_given(self, NotANet, value, additions, value, (), ())
            check_given(self, NotANet, value, additions, value, None, None)
            check_given(self, NotANet, value, cheapest, value, (0,) * 5)
            check_given(self, NotANet, value, cheapest, net=value, prices=None)

    def test_no_offers(self):
        for value in odd_values() + [[Meter("m", "src")], Meter("m", "src"), "m"]:
            check_index(self, InvalidOffers, None, additions, YARD, value, ())
            check_index(self, InvalidOffers, None, additions, YARD, value, value)
        offer, other = Meter("m6", "src"), Meter("m7", "src")
        for value in odd_values() + odd_tuples() + ["m6", ("m6", "src"), Meter, YARD, Sum()]:
            check_index(self, InvalidOffers, 0, additions, YARD, (value,), ())
            check_index(self, InvalidOffers, 1, additions, YARD, (offer, value, value), None)
            check_index(self, InvalidOffers, 2, additions, YARD, (offer, other, value), (1,))
        check_index(self, InvalidOffers, 1, additions, YARD, (offer, offer), ())
        check_index(self, InvalidOffers, 1, additions, YARD, (offer, Meter("m6", "left", sealed=True), 7), ())
        check_index(self, InvalidOffers, 2, additions, YARD, (offer, other, offer), ())
        for at in ("z", "m1", "a", "srcs"):
            check_index(self, InvalidOffers, 0, additions, YARD, (Meter("m6", at),), ())
            check_index(self, InvalidOffers, 1, additions, YARD, (offer, Meter("m1", at)), ())

    def test_the_seventh_offer(self):
        offers = tuple([Meter(f"n{index}", "src") for index in range(8)])
        self.assertEqual(additions(YARD, offers[:6], ()), ((),))
        check_index(self, InvalidOffers, 6, additions, YARD, offers[:7], ())
        check_index(self, InvalidOffers, 6, additions, YARD, offers, ())
        check_index(self, InvalidOffers, 5, additions, YARD, offers[:5] + (5,) + offers[5:], ())
        moved = tuple([Meter(f"m{index}", "src") for index in range(1, 6)])
        check_index(self, InvalidOffers, 6, additions, YARD, moved + offers[:2], ())

    def test_the_thirteenth_meter(self):
        net = ring_with(2, (5, 5))
        new = tuple([Meter(f"n{index}", "p0") for index in range(5)])
        old = tuple([Meter(f"m0n{index}", "p1", sealed=True) for index in range(4)])
        self.assertEqual(additions(net, new[:2], ()), ((),))
        self.assertEqual(additions(net, new[:2] + old, ()), ((),))
        check_index(self, InvalidOffers, 2, additions, net, new[:3], ())
        check_index(self, InvalidOffers, 2, additions, net, new, ())
        check_index(self, InvalidOffers, 4, additions, net, (old[0], new[0], old[1], new[1], new[2]), ())
        check_index(self, InvalidOffers, 4, additions, net, (old[0], new[0], old[1], new[1], new[2], old[2]), ())
        full = ring_with(2, (6, 6))
        self.assertEqual(additions(full, old, ()), ((),))
        check_index(self, InvalidOffers, 0, additions, full, new[:1], ())
        check_index(self, InvalidOffers, 1, additions, full, (old[0], new[0]), ())

    def test_no_wishes(self):
        for value in odd_values() + [[("src", (0, 0, 0))], "src", {}]:
            check_index(self, InvalidWishes, None, additions, YARD, (), value)
        fine = ("src", (0, 0, 0))
        wrong = odd_values() + odd_tuples() + [
            (), ("src",), ("src", (0, 0, 0), 1), ["src", (0, 0, 0)], ("z", (0, 0, 0)), ("m1", (0, 0, 0)), ((0, 0, 0), "src"),
            ("a", (0, 0, 0)), (YARD.pipes[0], (0, 0, 0)), ("tells", "yard", "src", (0, 0, 0)), (fine,),
        ]
        for value in wrong + [("src", faults) for faults in odd_faults()]:
            check_index(self, InvalidWishes, 0, additions, YARD, (), (value,))
            check_index(self, InvalidWishes, 1, additions, YARD, (), (fine, value))
            check_index(self, InvalidWishes, 2, additions, YARD, (), (fine, fine, value, value))
        for value in odd_values() + odd_tuples():
            check_index(self, InvalidWishes, 0, additions, YARD, (), ((value, (0, 0, 0)), value))
        # Also where the first wish cannot be granted.
        check_index(self, InvalidWishes, 1, additions, YARD, (), (("src", (3, 3, 3)), 5))

    def test_no_prices(self):
        for value in odd_values() + [(), (0,) * 4, (0,) * 6, [0] * 5, "00000", ((0,) * 5,), (None,) * 6, {}]:
            check_index(self, InvalidPrices, None, cheapest, YARD, value)
        wrong = [value for value in odd_values() + odd_tuples() if value.__class__ is not int or value < 0]
        for value in wrong + [SameAsAll(), Sour(), "0", True, False, -1, -BIG, None]:
            for at in range(5):
                check_index(self, InvalidPrices, at, cheapest, YARD, (0,) * at + (value,) * (5 - at))
                check_index(self, InvalidPrices, at, cheapest, net=YARD, prices=(0,) * at + (value,) + (7,) * (4 - at))

    def test_several_wrong_arguments(self):
        check_given(self, NotANet, 1, additions, 1, 2, 3)
        check_index(self, InvalidOffers, None, additions, YARD, 2, 3)
        check_index(self, InvalidOffers, 0, additions, YARD, (2,), 3)
        check_index(self, InvalidWishes, None, additions, YARD, (Meter("m6", "src"),), 3)


if __name__ == "__main__":
    unittest.main()
