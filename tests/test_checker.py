import unittest

from ringvotes.checker import accepts
from ringvotes.nets import Net
from tests.support import SameAsAll, Sour, nested, odd_faults, odd_tuples, odd_values
from tests.words import bends, fits

YARD = (
    "pipe src o a\npipe left a b\npipe right a c\npipe lout b o\npipe rout c o\n"
    "meter m1 src\nmeter m2 left\nmeter m3 right\nmeter m4 lout\nmeter m5 rout"
)
SEALED = "pipe p x y\npipe q y x\npipe r x y\npipe s y z\nmeter m1 p\nmeter m2 q\nmeter m3 r sealed\nmeter m4 q"
PAIR = "pipe p x y\npipe q y x\nmeter m1 p\nmeter m2 q"
BARE = "pipe p x y\npipe q y x\npipe r x y\npipe s y z\nmeter m p"
TWO_WAYS = "if m1 == m2 + m3 go 2\ntell m4 + m5\ntell m1"
STILL = (0, 0)
ZERO = (1, (), STILL)

# Claims with certificates by hand, by the words of their claims.
BY_HAND = {
    "tells": [
        (("tells", YARD, "src", (1, 1, 0)), (0, 1, 1, 2)),
        (("tells", YARD, "left", (0, 0, 1)), (1, 0, 0, 1)),
        (("tells", SEALED, "r", (3, 3, 3)), (0, 1, 1)),
        (("tells", SEALED, "q", (0, 1, 1)), (9, 10, 10)),
        (("tells", "pipe p x y\npipe q y x\nmeter s q sealed", "p", (3, 3, 3)), (50, 1)),
        (("tells", "pipe p a b", "p", (0, 0, 0)), (1, 0)),
    ],
    "misleads": [
        (("misleads", YARD, "src", (1, 1, 1)), (((0,) * 5, (None, 0, 0, 1, 0)), ((1, 1, 0, 1, 0), (None, 0, 0, 1, 0)))),
        (("misleads", PAIR, "q", (0, 1, 1)), (((3, 3), (3, None)), ((4, 4), (3, None)))),
        (("misleads", "pipe p a b\npipe q b a", "p", (0, 0, 0)), (((0, 0), ()), ((1, 1), ()))),
    ],
    "fools": [
        (("fools", YARD, "src", TWO_WAYS, (1, 1, 1)), ((2, 1, 1, 1, 1), (2, None, 1, 1, 5))),
        (("fools", PAIR, "p", "tell m1", (0, 1, 0)), ((3, 3), (4, 3))),
        (("fools", PAIR, "p", "doubt", (0, 0, 0)), ((3, 3), (3, 3))),
        (("fools", PAIR, "p", "if m1 == m2 go 2\ndoubt\ntell m1", (1, 1, 0)), ((3, 3), (4, 3))),
    ],
    "clash": [
        (("clash", YARD, (7, 4, 3, 4, 5)), ("m3 - m5", (0, 0, 1, 0))),
        (("clash", YARD, (7, None, 3, 4, 5)), ("m1 - m4 - m5", (5, 5, 5, 4))),
        (("clash", SEALED, (1, 2, 0, 3)), ("-m2 + m4", (0, 0, 0))),
        (("clash", SEALED, (1, 4, 0, None)), ("-m1 + m2 - m3", (1, 0, 0))),
    ],
    "same": [
        (("same", PAIR, "pipe q y x\npipe p x y\nmeter m2 p\nmeter m1 p"), (
            (("q", (1, 1), (1, 1)),), (("p", (1, 1), (1, 1)),),
        )),
        (("same", "pipe p a b", "pipe p a b\npipe q b a"), ((), (("q", (1, 1), (0,)),))),
        (("same", "pipe p a b\npipe q b a\npipe r a b\nmeter m r", "pipe p a b\npipe q b a\nmeter m q"), (
            (("p", (1, 1, 0), (0, 0)), ("r", (0, 1, 1), (1, 1))), (("p", (1, 1), (0, 1, 1)),),
        )),
    ],
    "differ": [
        (("differ", PAIR, "pipe p x y\npipe q y x\npipe r x y\nmeter m1 p\nmeter m2 q"),
         (1, (1, 0, -1), "m1 - m2", (0, 1))),
        (("differ", PAIR, "pipe p x y\nmeter m1 p\nmeter m2 p"), (0, (2, 2), "m2", (3, 4))),
    ],
    "cheapest": [
        (("cheapest", BARE, (0, 4, 7, 0), ("q",)), ((0, 1, 1, 0),)),
        (("cheapest", BARE, (9, 4, 4, 9), ("r",)), ((0, -2, -2, 0),)),
        (("cheapest", "pipe p a b", (0,), ()), ()),
    ],
}

# Combinations for a net of two pipes in a ring with the meters m1 and m2, one of which may be wrong.
AGREE = "if m1 == m2 go 2\ndoubt\ntell m1"
BY_HAND["right"] = [
    (("right", PAIR, "p", AGREE, (0, 0, 0)), (
        ((), (), ((("equal", (1, (), (0, 1))),), ("tells", ZERO))),
    )),
    (("right", PAIR, "p", AGREE, (0, 1, 0)), (
        ((), (), ((("equal", (1, (), (0, 1))),), ("tells", ZERO))),
        (("m1",), (), ((), ("both", ((), ("tells", (1, (1,), (1, 0)))), ((), ("doubts",))))),
        (("m2",), (), ((), ("both", ((), ("tells", (-1, (0,), (4, 4)))), ((), ("doubts",))))),
    )),
    (("right", PAIR, "q", "if m1 == m2 go 1\ntell m2", (0, 0, 0)), (
        ((), (), ((("equal", (-2, (), (2, 0))),), ("tells", ZERO))),
    )),
    (("right", PAIR, "p", "vote 0: m1\ntell m2", (0, 0, 1)), (
        ((), (), ((), ("tells", ZERO))),
        ((), ("m2",), ((), ("tells", ZERO))),
        ((), ("m1",), ((), ("tells", (1, (), (1, 0))))),
    )),
    (("right", PAIR, "p", "vote 0: m1, m2\ndoubt", (0, 1, 0)), (
        ((), (), ((("equal", (1, (), (0, 1))),), ("tells", ZERO))),
        (("m1",), (), ((), ("both",
                            ((), ("tells", (1, (1,), (1, 0)))),
                            # The second sum is tested, too: m2 less m1 is the first form with its sign turned.
                            ((("unequal", 0, (-1, (1,), (0, 0))),), ("doubts",))))),
        (("m2",), (), ((), ("both",
                            ((), ("tells", (1, (0,), (0, 0)))),
                            ((("unequal", 0, (-2, (2,), (3, 3))),), ("doubts",))))),
    )),
    (("right", "pipe p x y", "p", "tell 0", (3, 3, 3)), (((), (), ((), ("tells", (5, (), (5, 0))))),)),
]

ALL = [case for cases in BY_HAND.values() for case in cases]


class TestByHand(unittest.TestCase):
    def test_they_fit(self):
        self.assertEqual(len(BY_HAND), 8)
        for claim, certificate in ALL:
            self.assertTrue(fits(claim, certificate), claim)
            self.assertIs(accepts(claim, certificate), True, claim)
            self.assertIs(accepts(claim=claim, certificate=certificate), True)

    def test_certificates_of_other_claims(self):
        for claim, certificate in ALL:
            for _, other in ALL:
                self.assertIs(accepts(claim, other), fits(claim, other), (claim, other))

    def test_claims_with_other_words(self):
        for claim, certificate in ALL:
            for word in list(BY_HAND) + ["", "tell", "Tells", "sames", "right ", b"tells", None, 0, SameAsAll(), ("tells",)]:
                other = (word,) + claim[1:]
                self.assertIs(accepts(other, certificate), fits(other, certificate), other)


class TestBent(unittest.TestCase):
    def check(self, word):
        """All values that differ in a single place are judged as by the words."""
        counts = {True: 0, False: 0}
        for claim, certificate in BY_HAND[word]:
            for other in bends(certificate):
                expected = fits(claim, other)
                self.assertIs(accepts(claim, other), expected, (claim, other))
                counts[expected] += 1
            for other in bends(claim):
                expected = fits(other, certificate)
                self.assertIs(accepts(other, certificate), expected, (other, certificate))
                counts[expected] += 1
        self.assertGreater(counts[False], 100)
        self.assertGreater(counts[True], 0)

    def test_tells(self):
        self.check("tells")

    def test_misleads(self):
        self.check("misleads")

    def test_fools(self):
        self.check("fools")

    def test_clash(self):
        self.check("clash")

    def test_same(self):
        self.check("same")

    def test_differ(self):
        self.check("differ")

    def test_cheapest(self):
        self.check("cheapest")

    def test_right(self):
        self.check("right")


class TestEdges(unittest.TestCase):
    def check(self, expected, claim, certificate):
        self.assertIs(fits(claim, certificate), expected, (claim, certificate))
        self.assertIs(accepts(claim, certificate), expected, (claim, certificate))

    def test_heights_at_the_bounds(self):
        for heights, expected in (
            ((0, 1, 1, 2), True), ((0, 1, 1, 1), False), ((0, 0, 1, 2), False), ((0, 1, 2, 2), False), ((0, 2, 1, 2), False),
            ((-5, -4, -4, -3), True), ((10 ** 39, 10 ** 39 + 1, 10 ** 39 + 1, 10 ** 39 + 2), True), ((0, 1, 1, 3), False),
        ):
            self.check(expected, ("tells", YARD, "src", (1, 1, 0)), heights)
            self.check(False, ("tells", YARD, "src", (1, 1, 1)), heights)
        # A pipe with a sealed meter may be as steep as it likes; all others not.
        self.check(True, ("tells", SEALED, "r", (3, 3, 3)), (0, -1, -1))
        self.check(False, ("tells", SEALED, "r", (3, 3, 3)), (0, -2, -2))
        self.check(False, ("tells", SEALED, "r", (3, 3, 3)), (0, 1, 2))
        self.check(False, ("tells", SEALED, "q", (3, 3, 3)), (0, 1, 1))
        one = "pipe p x y\npipe q y x\nmeter s q sealed"
        for heights, expected in (((10, 0), True), ((9, 0), False), ((0, 10), False), ((0, -10), True)):
            self.check(expected, ("tells", one, "p", (3, 3, 3)), heights)
            self.check(True, ("tells", one + "\nmeter t p sealed", "p", (3, 3, 3)), heights)
        self.check(False, ("tells", SEALED, "s", (0, 0, 0)), (0, 2, 0))
        self.check(True, ("tells", SEALED, "s", (0, 0, 0)), (0, 1, 0))

    def test_worlds_that_mislead(self):
        claim = ("misleads", PAIR, "p", (0, 1, 1))
        still, more = (0, 0), (1, 1)
        self.check(True, claim, ((still, (0, None)), (more, (0, None))))
        self.check(False, claim, ((more, (0, None)), (still, (0, None))))
        self.check(False, claim, ((still, (0, 0)), (more, (0, 0))))
        self.check(False, claim, ((still, (None, None)), (more, (None, None))))
        self.check(False, claim, ((still, (0, None)), (still, (0, None))))
        self.check(False, claim, ((still, (0, None)), (more, (1, None))))
        self.check(True, ("misleads", PAIR, "p", (1, 1, 0)), ((still, (1, 0)), (more, (1, 0))))
        self.check(False, ("misleads", PAIR, "p", (1, 1, 0)), ((still, (1, 1)), (more, (1, 1))))
        self.check(True, ("misleads", PAIR, "p", (0, 2, 0)), ((still, (0, 0)), (more, (0, 0))))
        self.check(False, ("misleads", PAIR, "p", (0, 1, 0)), ((still, (0, 0)), (more, (0, 0))))
        # The flow of another pipe is different, that of this one is not.
        bare = "pipe p x y\npipe q y x\npipe r x y\nmeter m p"
        self.check(False, ("misleads", bare, "p", (0, 0, 0)), (((0, 0, 0), (0,)), ((0, 1, 1), (0,))))
        self.check(True, ("misleads", bare, "q", (0, 0, 0)), (((0, 0, 0), (0,)), ((0, 1, 1), (0,))))

    def test_worlds_that_fool(self):
        agree = ("fools", PAIR, "p", AGREE)
        for faults, world, expected in (
            ((0, 1, 0), ((3, 3), (3, 4)), False), ((1, 1, 0), ((3, 3), (3, 4)), True), ((0, 2, 0), ((3, 3), (4, 4)), True),
            ((0, 1, 0), ((3, 3), (4, 4)), False), ((0, 0, 1), ((3, 3), (None, 3)), True), ((0, 0, 0), ((3, 3), (None, 3)), False),
            ((0, 2, 1), ((3, 3), (None, 4)), False), ((1, 2, 1), ((3, 3), (None, 4)), True), ((0, 0, 1), ((3, 3), (None,) * 2), False),
            ((2, 2, 0), ((3, 3), (3, 3)), False), ((3, 3, 3), ((3, 4), (3, 4)), False), ((2, 2, 0), ((3, 3), (4, 5)), True),
        ):
            self.check(expected, agree + (faults,), world)

    def test_sums_that_clash(self):
        claim = ("clash", PAIR, (3, 4))
        for certificate, expected in (
            (("m1 - m2", (0, 1)), True), (("2*m1 - 2*m2", (7, 9)), True), (("-m1 + m2", (0, -1)), True),
            (("m1 - m2", (1, 0)), False), (("m1 + m2", (0, 1)), False), (("0", (0, 0)), False), (("m1", (0, 1)), False),
            (("m1 - m3", (0, 1)), False), (("m2 - m1", (0, 1)), False), (("m1-m2", (0, 1)), False),
            (("m1 - m2", (0, 1, 2)), False), (("m1 - m2", [0, 1]), False),
        ):
            self.check(expected, claim, certificate)
            self.check(False, ("clash", PAIR, (3, 3)), certificate)
            self.check(False, ("clash", PAIR, (3, None)), certificate)
        self.check(False, ("clash", SEALED, (0, 0, None, 0)), ("m1 - m2 + m3", (0, 1, 0)))
        self.check(False, ("clash", PAIR, (3, 4, 5)), ("m1 - m2", (0, 1)))

    def test_flows_that_show_the_same_readings(self):
        claim = ("same", PAIR, PAIR)
        one = (("p", (1, 1), (1, 1)),)
        other = (("q", (1, 1), (1, 1)),)
        self.check(True, claim, (one, one))
        self.check(True, claim, (one, other))
        for bad in (
            (), one + one, one + other, (("p", (1, 1), (2, 2)),), (("p", (2, 2), (2, 2)),), (("p", (0, 0), (0, 0)),),
            (("p", (1, 1), (1, 2)),), (("p", (-1, -1), (-1, -1)),), (("z", (1, 1), (1, 1)),),
        ):
            self.check(False, claim, (one, bad))
            self.check(False, claim, (bad, one))
        # Further pipes in triples have to be 0 in the flows of the others.
        three = "pipe p x y\npipe q y x\npipe r y x"
        fine = (("q", (1, 1, 0), ()), ("r", (1, 0, 1), ()))
        self.check(False, ("same", three, "pipe p x y"), (fine, ()))
        fine = tuple([triple[:2] + ((0,),) for triple in fine])
        self.check(True, ("same", three, "pipe p x y"), (fine, ()))
        self.check(False, ("same", three, "pipe p x y"), (fine[:1], ()))
        self.check(False, ("same", three, "pipe p x y"), ((("q", (2, 1, 1), (0,)), fine[1]), ()))
        self.check(False, ("same", three, "pipe p x y"), ((("q", (1, 1, 0), (1,)), fine[1]), ()))
        self.check(False, ("same", PAIR, three), (one, fine))
        self.check(True, ("same", "pipe p x y\npipe q z w", "pipe p x y"), ((), ()))
        # A pipe on no ring may stand in no triple, since no flow is 1 there.
        self.check(False, ("same", "pipe p x y", "pipe p x y"), ((("p", (0,), (0,)),), ()))
        self.check(False, ("same", "pipe p x y", "pipe p x y"), ((("p", (1,), (0,)),), ()))

    def test_nets_that_differ(self):
        far = "pipe p x y\npipe q y x\npipe r x y\nmeter m1 p\nmeter m2 q"
        for certificate, expected in (
            ((1, (1, 0, -1), "m1 - m2", (0, 1)), True), ((1, (0, 1, 1), "m1 - m2", (0, 1)), True),
            ((1, (1, 1, 0), "m1 - m2", (0, 1)), False), ((0, (1, 1), "m1 - m2", (0, 1)), False),
            ((True, (1, 0, -1), "m1 - m2", (0, 1)), False), ((2, (1, 0, -1), "m1 - m2", (0, 1)), False),
            ((-1, (1, 0, -1), "m1 - m2", (0, 1)), False), ((1, (1, 0, 0), "m1 - m2", (0, 1)), False),
        ):
            self.check(expected, ("differ", PAIR, far), certificate)
            turned = (1 - certificate[0],) + certificate[1:] if certificate[0].__class__ is int else certificate
            self.check(expected, ("differ", far, PAIR), turned)
        self.check(False, ("differ", PAIR, far + "\nmeter m3 r"), (1, (1, 0, -1), "m1 - m2", (0, 1)))
        self.check(False, ("differ", PAIR + "\nmeter m3 p", far), (1, (1, 0, -1), "m1 - m2", (0, 1)))

    def test_pipes_at_the_lowest_price(self):
        three = "pipe p x y\npipe q x y\npipe r x y"
        for prices, names, flows, expected in (
            ((1, 2, 3), ("p", "q"), ((1, 0, -1), (0, 1, -1)), True),
            ((1, 2, 3), ("q", "p"), ((0, 1, -1), (1, 0, -1)), False),
            ((1, 2, 3), ("p", "r"), ((1, -1, 0), (0, -1, 1)), False),
            ((1, 2, 2), ("p", "r"), ((1, -1, 0), (0, -1, 1)), True),
            ((1, 2, 3), ("p", "q"), ((1, -1, 0), (0, 1, -1)), False),
            ((1, 2, 3), ("p", "q"), ((5, 0, -5), (0, -3, 3)), True),
            ((1, 2, 3), ("p", "q"), ((0, 0, 0), (0, 1, -1)), False),
            ((1, 2, 3), ("p",), ((1, 0, -1),), False), ((1, 2, 3), ("p", "q", "r"), ((0, 0, 0),) * 3, False),
            ((1, 2, 3), ("p", "p", "q"), ((1, 0, -1), (1, 0, -1), (0, 1, -1)), False),
            ((0, 0, 0), ("p", "q"), ((1, 0, -1), (0, 1, -1)), True),
            ((-1, 2, 3), ("p", "q"), ((1, 0, -1), (0, 1, -1)), False), ((1, 2), ("p", "q"), ((1, 0, -1), (0, 1, -1)), False),
            ((True, 2, 3), ("p", "q"), ((1, 0, -1), (0, 1, -1)), False),
        ):
            self.check(expected, ("cheapest", three, prices, names), flows)
        # A pipe with a meter is no pipe to choose, and none to lead through.
        self.check(False, ("cheapest", three + "\nmeter m r", (1, 2, 3), ("p", "q")), ((1, 0, -1), (0, 1, -1)))
        self.check(False, ("cheapest", three + "\nmeter m r", (1, 2, 3), ("p",)), ((1, 0, -1),))
        self.check(True, ("cheapest", three + "\nmeter m r", (1, 2, 3), ("p",)), ((1, -1, 0),))
        self.check(True, ("cheapest", three + "\nmeter m r sealed", (1, 2, 3), ("p",)), ((1, -1, 0),))
        self.check(False, ("cheapest", three + "\nmeter m r", (1, 2, 3), ("r",)), ((1, -1, 0),))

    def test_more_meters_than_a_net_can_have(self):
        lines = ["pipe p x y", "pipe q x y", "pipe r x y"] + [f"meter m{index} p" for index in range(12)]
        self.check(True, ("cheapest", "\n".join(lines), (0, 1, 2), ("q",)), ((0, 1, -1),))


class TestRight(unittest.TestCase):
    """Edges of [22] and [23]."""

    def check(self, expected, claim, certificate):
        self.assertIs(fits(claim, certificate), expected, (claim, certificate))
        self.assertIs(accepts(claim, certificate), expected, (claim, certificate))

    def test_exactly_one_triple_for_each_pair(self):
        claim, triples = BY_HAND["right"][1]
        for order in ((0, 1, 2), (2, 1, 0), (1, 2, 0)):
            self.check(True, claim, tuple([triples[index] for index in order]))
        for order in ((0, 1), (1, 2), (), (0, 1, 2, 2), (0, 0, 1, 2), (0, 1, 1), (0, 0, 2)):
            self.check(False, claim, tuple([triples[index] for index in order]))
        # Triples that are of no use for other faults.
        self.check(False, claim[:4] + ((0, 0, 0),), triples)
        self.check(True, claim[:4] + ((0, 0, 0),), triples[:1])
        self.check(False, claim[:4] + ((0, 1, 1),), triples)

    def test_strict_triples_do_not_doubt(self):
        triple = ((), (), ((), ("doubts",)))
        self.check(False, ("right", PAIR, "p", "doubt", (0, 0, 0)), (triple,))
        more = tuple([((name,), (), ((), ("doubts",))) for name in ("m1", "m2")])
        self.check(False, ("right", PAIR, "p", "doubt", (0, 1, 0)), (triple,) + more)
        claim, triples = BY_HAND["right"][1]
        self.check(False, claim[:4] + ((1, 1, 0),), triples[1:])

    def test_as_many_as_there_are(self):
        # Of one meter at most one is wrong: its triple is the one for healed and for noticed.
        text = "pipe p x y\npipe q y x\nmeter m p\nmeter s q sealed"
        tree = ((), ("tells", (1, (), (1, 0))))
        for faults in ((1, 1, 0), (1, 2, 0), (2, 3, 0), (3, 3, 0)):
            self.check(True, ("right", text, "p", "tell s", faults), ((("m",), (), tree),))
        self.check(True, ("right", text, "p", "tell s", (0, 3, 0)), (((), (), tree), (("m",), (), tree)))
        silent = ((), ("m",), tree)
        self.check(True, ("right", text, "p", "tell s", (2, 3, 3)), ((("m",), (), tree), silent))
        self.check(True, ("right", text, "p", "tell s", (0, 1, 1)), (silent, ((), (), tree), (("m",), (), tree)))
        self.check(False, ("right", text, "p", "tell s", (2, 3, 3)), ((("m",), (), tree), silent, silent))
        for bad in ((("s",), (), tree), ((), ("s",), tree), (("m",), ("m",), tree), (("m", "m"), (), tree), (("z",), (), tree)):
            self.check(False, ("right", text, "p", "tell s", (2, 3, 3)), (bad, silent))

    def test_silent_sums(self):
        claim = ("right", PAIR, "p", "if m1 == m2 go 2\nvote 0: m1, m2\ntell m1", (0, 0, 1))
        both = ((("equal", (1, (), (0, 1))),), ("tells", ZERO))
        only = {"m1": ((), ("tells", ZERO)), "m2": ((), ("tells", (1, (), (1, 0))))}
        self.check(True, claim, (((), (), both), ((), ("m2",), only["m1"]), ((), ("m1",), only["m2"])))
        self.check(False, claim, (((), (), both), ((), ("m2",), only["m2"]), ((), ("m1",), only["m1"])))
        self.check(False, claim, (((), (), only["m1"]), ((), ("m2",), only["m1"]), ((), ("m1",), only["m2"])))

    def test_branches_that_cannot_come_about(self):
        # Both answers may be followed where only one can be, if both are closed.
        claim = ("right", PAIR, "p", "if m1 == m2 go 2\ntell m2\ntell m1", (0, 0, 0))
        equal, other = ((), ("tells", (1, (0,), STILL))), ((), ("tells", (1, (), (1, 0))))
        self.check(True, claim, (((), (), ((), ("both", equal, other))),))
        self.check(False, claim, (((), (), ((), ("both", other, equal))),))
        # The forms of this test are 0 for all flows: so any factor fits with the right heights.
        self.check(True, claim, (((), (), ((), ("both", ((), ("tells", (1, (4,), (4, 0)))), other))),))

    def test_steps_at_no_test(self):
        claim = ("right", PAIR, "p", "tell m1", (0, 0, 0))
        self.check(True, claim, (((), (), ((), ("tells", ZERO))),))
        for step in (("equal", ZERO), ("unequal", 0, ZERO), ("both", (), ())):
            self.check(False, claim, (((), (), ((step,), ("tells", ZERO))),))
        self.check(False, claim, (((), (), ((), ("both", ((), ("tells", ZERO)), ((), ("tells", ZERO))))),))

    def test_trees_that_close_too_early(self):
        claim, triples = BY_HAND["right"][0]
        self.check(False, claim, (((), (), ((), ("tells", ZERO))),))
        self.check(False, claim, (((), (), ((), ("doubts",))),))
        self.check(False, claim[:4] + ((0, 1, 0),), (triples[0], (("m1",), (), ((), ("doubts",))), (("m2",), (), ((), ("doubts",)))))

    def test_indexes_that_are_not_there(self):
        claim, triples = BY_HAND["right"][4]
        for index, expected in ((0, True), (1, False), (-1, False), (False, False), ("0", False), (None, False)):
            tree = ((), ("both", ((), ("tells", (1, (1,), (1, 0)))), ((("unequal", index, (-1, (1,), STILL)),), ("doubts",))))
            self.check(expected, claim, (triples[0], (("m1",), (), tree), triples[2]))

    def test_combinations(self):
        claim, triples = BY_HAND["right"][1]
        for combination, expected in (
            ((1, (1,), (1, 0)), True), ((2, (2,), (2, 0)), True), ((-1, (-1,), (0, 1)), True), ((0, (0,), (0, 0)), False),
            ((1, (), (1, 0)), False), ((1, (1, 0), (1, 0)), False), ((1, (1,), (1, 0, 0)), False), ((1, (1,), (1,)), False),
            ((1, (True,), (1, 0)), False), ((True, (1,), (1, 0)), False), ((1, (1,), (True, 0)), False), ((1, (1,), (2, 1)), True),
            ((1, [1], (1, 0)), False), ((1, (1,), [1, 0]), False), ([1, (1,), (1, 0)], False), ((1, 1, (1, 0)), False),
            ((1, (2,), (1, 0)), False), ((1, (1,), (0, 1)), False), ((1, (1,)), False), ((1, (1,), (1, 0), ()), False),
            ((10 ** 39, (10 ** 39,), (10 ** 39, 0)), True),
        ):
            tree = ((), ("both", ((), ("tells", combination)), ((), ("doubts",))))
            self.check(expected, claim, (triples[0], (("m1",), (), tree), triples[2]))

    def test_combinations_tell_what_wrong_meters_show(self):
        # For a pipe on no ring heights do what they like, but they do nothing for a meter that may be wrong.
        text, still = "pipe p x y\nmeter m p", ((), ("tells", (1, (), (1, 0))))
        self.check(True, ("right", text, "p", "tell m", (0, 0, 0)), (((), (), ((), ("tells", ZERO))),))
        self.check(False, ("right", text, "p", "tell m", (1, 1, 0)), ((("m",), (), still),))
        self.check(True, ("right", text, "p", "tell 0", (1, 1, 0)), ((("m",), (), still),))
        claim = ("right", text, "p", "if m == 0 go 2\ntell 0\ntell 0", (1, 1, 0))
        both = ((), ("both", ((), ("tells", (1, (0,), (1, 0)))), still))
        for tree, expected in ((both, True), (((("equal", ZERO),), still[1]), False), (((("equal", (1, (), (0, 1))),), still[1]), False)):
            self.check(expected, claim, ((("m",), (), tree),))
        claim = ("right", text, "p", "if m == 0 go 3\nif 0 == 0 go 3\ndoubt\ntell 0", (0, 1, 0))
        first = ((), (), ((("equal", (1, (), (0, 1))),), still[1]))
        for apart, expected in ((((("equal", ZERO),), still[1]), True), (((("unequal", 0, (1, (0,), STILL)),), ("doubts",)), False)):
            self.check(expected, claim, (first, (("m",), (), ((), ("both", both[1][1], apart)))))

    def test_zero_is_no_factor_for_the_form_itself(self):
        # With 0 everything would follow.
        claim = ("right", PAIR, "p", "tell 2*m1", (0, 0, 0))
        for times in (0, 1, -1, 2):
            self.check(False, claim, (((), (), ((), ("tells", (times, (), STILL))),),))
        self.check(False, claim, (((), (), ((("equal", (0, (), STILL)),), ("tells", ZERO)),),))

    def test_steps_do_not_change_the_forms(self):
        # The form of the first test is no equal form behind the step.
        claim = ("right", PAIR, "p", AGREE, (0, 0, 0))
        self.check(False, claim, (((), (), ((("equal", (1, (), (0, 1))),), ("tells", (1, (0,), STILL)))),))

    def test_pairs_of_meters(self):
        text = PAIR + "\nmeter m3 p"
        rule = "vote 1: m1, m2, m3\ndoubt"
        claim = ("right", text, "p", rule, (0, 0, 0))
        steps = (("equal", (1, (), (0, 1))), ("equal", ZERO))
        self.check(True, claim, (((), (), (steps, ("tells", ZERO))),))
        self.check(False, claim, (((), (), (steps[::-1], ("tells", ZERO))),))
        self.check(False, claim, (((), (), (steps[:1], ("tells", ZERO))),))
        self.check(False, claim, (((), (), (steps + steps[1:], ("tells", ZERO))),))


class TestAnyValues(unittest.TestCase):
    def values(self):
        return odd_values() + odd_tuples() + [
            (), nested(tuple, 200), nested(list, 200), (nested(tuple, 199),), (SameAsAll(),) * 4, (Sour(),) * 5,
            Net.read(YARD), ("tells",), ("right",) * 5, ((), (), ((), ())),
        ]

    def test_in_the_place_of_the_claim_and_of_the_certificate(self):
        for value in self.values():
            self.assertIs(accepts(value, value), False)
            for claim, certificate in ALL:
                self.assertIs(accepts(value, certificate), False)
                self.assertIs(accepts(claim, value), fits(claim, value))

    def test_in_the_place_of_each_part(self):
        for cases in BY_HAND.values():
            for claim, certificate in cases[:2]:
                for value in self.values():
                    for other in with_part(claim, value):
                        self.assertIs(accepts(other, certificate), fits(other, certificate), (claim, certificate))
                    for other in with_part(certificate, value):
                        self.assertIs(accepts(claim, other), fits(claim, other), (claim, certificate))

    def test_faults(self):
        for claim, certificate in ALL:
            if claim[0] in ("tells", "misleads", "fools", "right"):
                for value in odd_faults():
                    self.assertIs(accepts(claim[:-1] + (value,), certificate), False)

    def test_texts(self):
        for claim, certificate in ALL:
            for text in (YARD, PAIR, SEALED, BARE, AGREE, TWO_WAYS, "pipe p x y", "doubt", "", "0", "m1 - m2"):
                for at in range(1, len(claim)):
                    other = claim[:at] + (text,) + claim[at + 1:]
                    self.assertIs(accepts(other, certificate), fits(other, certificate), other)

    def test_deep_trees(self):
        tree = ((), ("doubts",))
        for _ in range(60):
            tree = ((), ("both", tree, ((), ("doubts",))))
        for claim, triples in BY_HAND["right"]:
            self.assertIs(accepts(claim, tuple([triple[:2] + (tree,) for triple in triples])), False)
            self.assertIs(accepts(claim, nested(tuple, 200)), False)


def with_part(value, part):
    """The values with this part in the place of each of its own parts."""
    if value.__class__ is tuple:
        for at, inner in enumerate(value):
            yield value[:at] + (part,) + value[at + 1:]
            yield from (value[:at] + (other,) + value[at + 1:] for other in with_part(inner, part))


if __name__ == "__main__":
    unittest.main()
