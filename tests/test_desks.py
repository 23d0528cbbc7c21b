import random
import unittest

from ringvotes.desks import Desk
from ringvotes.errors import (
    InvalidNumber,
    InvalidReading,
    NotANet,
    NotARule,
    NothingToUndo,
    NoWorld,
    UnknownName,
)
from ringvotes.explaining import explanations, sure
from ringvotes.nets import Meter, Net
from ringvotes.rules import Rule, outcome
from ringvotes.sums import Sum
from tests.oracles import random_nets
from tests.support import SameAsAll, Sour, check_given, odd_numbers, odd_tuples, odd_values, raised

YARD = Net.read(
    "pipe src o a\npipe left a b\npipe right a c\npipe lout b o\npipe rout c o\n"
    "meter m1 src\nmeter m2 left\nmeter m3 right\nmeter m4 lout\nmeter m5 rout"
)
SEALED = YARD + Meter("m2", "left", sealed=True) + Meter("m6", "src", sealed=True)
BIG = 10 ** 39


def no_readings():
    """Values that are neither an integer nor None."""
    values = [value for value in odd_values() if value is not None and value.__class__ is not int]
    return values + odd_tuples() + [(), "7", 1j, Sum()]


def look(desk):
    """All that a desk tells of its state."""
    return desk.readings, desk.changes, len(desk), [name in desk for name in ("m1", "m2", "m3", "m4", "m5", "m6")]


class Bang(Exception):
    """An error of the tests."""


class TestDesk(unittest.TestCase):
    def test_a_new_desk(self):
        desk = Desk(SEALED)
        self.assertEqual(desk.readings, (None, 0, None, None, None, 0))
        self.assertEqual((desk.changes, len(desk)), (0, 2))
        self.assertIs(desk.net, SEALED)
        self.assertEqual([name in desk for name in ("m1", "m2", "m6")], [False, True, True])
        self.assertEqual([desk["m1"], desk["m2"], desk["m6"]], [None, 0, 0])
        self.assertEqual(Desk(net=YARD).readings, (None,) * 5)
        bare = Desk(Net.read("pipe p x y"))
        self.assertEqual((bare.readings, bare.changes, len(bare)), ((), 0, 0))

    def test_settings(self):
        desk = Desk(SEALED)
        desk["m3"] = 5
        self.assertEqual(desk.readings, (None, 0, 5, None, None, 0))
        desk["m2"] = -BIG
        desk["m3"] = None
        desk["m1"] = 0
        self.assertEqual(desk.readings, (0, -BIG, None, None, None, 0))
        self.assertEqual((desk.changes, len(desk)), (4, 3))
        self.assertEqual([desk["m1"], desk["m2"], desk["m3"]], [0, -BIG, None])
        self.assertEqual(["m1" in desk, "m3" in desk], [True, False])

    def test_nothing_else_is_told_than_readings(self):
        desk = Desk(YARD)
        self.assertIsNone(desk.__setitem__("m1", 4))
        self.assertIsNone(desk.note(m1=5))
        self.assertIsNone(desk.note())
        self.assertIsNone(desk.undo())

    def test_notes(self):
        desk = Desk(SEALED)
        desk.note(m5=1)
        desk.note(m4=2, m1=None, m2=9, m3=-7)
        self.assertEqual(desk.readings, (None, 9, -7, 2, 1, 0))
        desk.note()
        desk.note(m5=1)
        self.assertEqual(desk.changes, 4)
        desk.undo()
        desk.undo()
        self.assertEqual((desk.readings, desk.changes), ((None, 9, -7, 2, 1, 0), 2))
        desk.undo()
        self.assertEqual((desk.readings, desk.changes), ((None, 0, None, None, 1, 0), 1))

    def test_meters_with_names_of_all_kinds(self):
        names = ("if", "desk", "readings", "net", "name", "class", "at", "worth", "news")
        net = Net(YARD.pipes, tuple([Meter(name, "src") for name in names]))
        desk = Desk(net)
        desk.note(**{name: index for index, name in enumerate(names)})
        self.assertEqual(desk.readings, tuple(range(9)))

    def test_each_setting_is_a_change(self):
        desk = Desk(YARD)
        for times in range(1, 6):
            desk["m1"] = 3
            self.assertEqual(desk.changes, times)
        desk.undo()
        self.assertEqual((desk["m1"], desk.changes), (3, 4))

    def test_undo_back_to_the_beginning(self):
        desk = Desk(SEALED)
        states = [look(desk)]
        for name, seen in (("m1", 1), ("m2", 5), ("m1", None), ("m1", None), ("m6", 1), ("m4", BIG)):
            desk[name] = seen
            states.append(look(desk))
        while len(states) > 1:
            self.assertEqual(look(desk), states.pop())
            desk.undo()
        self.assertEqual(look(desk), states[0])
        for _ in range(2):
            self.assertEqual(vars(raised(self, NothingToUndo, desk.undo)), {})
            self.assertEqual(look(desk), states[0])
        desk["m3"] = 4
        self.assertEqual(desk.changes, 1)

    def test_undo_is_no_change(self):
        desk = Desk(YARD)
        desk["m1"] = 1
        desk["m1"] = 2
        desk.undo()
        desk["m1"] = 3
        desk.undo()
        self.assertEqual((desk["m1"], desk.changes), (1, 1))

    def test_drawn_changes(self):
        dice = random.Random(200)
        for net in random_nets(201, 40, most_meters=6):
            if not net.meters:
                continue
            desk, states = Desk(net), [tuple([0 if meter.sealed else None for meter in net.meters])]
            for _ in range(30):
                chosen = dice.sample(range(len(net.meters)), dice.randint(0, len(net.meters)))
                news = {
                    net.meters[at].name: dice.randint(-9, 9) if net.meters[at].sealed else dice.choice((None, 0, 4))
                    for at in chosen
                }
                if dice.randrange(3) == 0 and len(states) > 1:
                    desk.undo()
                    states.pop()
                elif dice.randrange(2) or not news:
                    desk.note(**news)
                    states.append(tuple([news.get(meter.name, desk[meter.name]) for meter in net.meters]))
                else:
                    name = list(news)[0]
                    desk[name] = news[name]
                    states.append(tuple([
                        news[name] if meter.name == name else seen for meter, seen in zip(net.meters, states[-1])
                    ]))
                self.assertEqual((desk.readings, desk.changes), (states[-1], len(states) - 1))
                self.assertEqual(len(desk), len([seen for seen in states[-1] if seen is not None]))
                for meter, seen in zip(net.meters, states[-1]):
                    self.assertEqual(desk[meter.name], seen)
                    self.assertIs(meter.name in desk, seen is not None)

    def test_answers(self):
        desk = Desk(YARD)
        rule = Rule.read("if m1 == m2 + m3 go 2\ntell m4 + m5\ntell m1")
        self.assertIsNone(desk.outcome(rule))
        desk.note(m1=7, m2=4, m3=3, m4=4, m5=5)
        self.assertEqual([desk.outcome(rule), desk.outcome(rule=rule)], [7, 7])
        self.assertEqual(desk.explanations(2), (("m5",), ("m1", "m3")))
        self.assertEqual(desk.explanations(most=1), (("m5",),))
        self.assertEqual([desk.sure("src", 1), desk.sure("src", most=2), desk.sure(pipe="left", most=2)], [7, None, 4])
        desk["m5"] = None
        self.assertEqual([desk.sure("rout"), desk.explanations(0)], [3, ((),)])

    def test_answers_are_those_of_the_functions(self):
        dice = random.Random(202)
        for net in random_nets(203, 60, most_meters=5):
            desk = Desk(net)
            desk.note(**{meter.name: dice.choice((0, 0, 1)) for meter in net.meters})
            for most in range(3):
                self.assertEqual(desk.explanations(most), explanations(net, desk.readings, most))
                for pipe in net.pipes:
                    try:
                        expected = sure(net, desk.readings, pipe.name, most)
                    except NoWorld:
                        self.assertEqual(raised(self, NoWorld, desk.sure, pipe.name, most).most, most)
                    else:
                        self.assertEqual(desk.sure(pipe.name, most), expected)
            rule = Rule(tuple([f"vote 0: {meter.name}" for meter in net.meters]) + ("doubt",))
            self.assertEqual(desk.outcome(rule), outcome(net, rule, desk.readings))

    def test_values_in_a_desk(self):
        desk = Desk(SEALED)
        for value in odd_values() + odd_tuples() + ["src", "m7", "", "m", YARD, Sum.of("m2"), YARD.meters[0]]:
            self.assertIs(value in desk, False)
        self.assertIs("m2" in desk, True)

    def test_desks_are_never_equal(self):
        one, two = Desk(YARD), Desk(YARD)
        self.assertIs(one == two, False)
        self.assertIs(one != two, True)
        for value in odd_values() + odd_tuples() + [YARD, Desk, None, SameAsAll(), Sour()]:
            self.assertIs(one == value, False)
            self.assertIs(one != value, True)

    def test_each_desk_is_true(self):
        self.assertIs(bool(Desk(YARD)), True)
        self.assertIs(bool(Desk(Net.read("pipe p x y"))), True)

    def test_desks_change_alone(self):
        one, two = Desk(YARD), Desk(YARD)
        before = str(YARD)
        one["m1"] = 4
        self.assertEqual((two.readings, two.changes), ((None,) * 5, 0))
        self.assertEqual(str(YARD), before)
        self.assertEqual(Desk(YARD).readings, (None,) * 5)

    def test_properties_are_not_set(self):
        desk = Desk(YARD)
        for name in ("net", "readings", "changes"):
            with self.assertRaises(AttributeError):
                setattr(desk, name, 1)


class TestTrials(unittest.TestCase):
    def setUp(self):
        self.desk = Desk(SEALED)
        self.desk["m1"] = 7
        self.desk.note(m3=3, m4=4)
        self.before = look(self.desk)

    def check_as_before(self):
        """The desk, and all its earlier states, are as they were when the trial began."""
        self.assertEqual(look(self.desk), self.before)
        self.assertEqual(self.desk.readings, (7, 0, 3, 4, None, 0))
        self.desk.undo()
        self.assertEqual((self.desk.readings, self.desk.changes), ((7, 0, None, None, None, 0), 1))
        self.desk.undo()
        self.assertEqual(self.desk.readings, (None, 0, None, None, None, 0))
        self.assertRaises(NothingToUndo, self.desk.undo)

    def test_a_trial_that_ends_well(self):
        with self.desk.trial() as desk:
            self.assertIs(desk, self.desk)
            desk["m5"] = 5
            desk.note(m1=None)
            self.assertEqual((desk.readings, desk.changes), ((None, 0, 3, 4, 5, 0), 4))
        self.check_as_before()

    def test_a_trial_without_changes(self):
        with self.desk.trial():
            pass
        self.check_as_before()

    def test_a_trial_that_ends_with_an_error(self):
        given = Bang("x")
        with self.assertRaises(Bang) as caught:
            with self.desk.trial() as desk:
                desk["m5"] = 5
                raise given
        self.assertIs(caught.exception, given)
        self.check_as_before()

    def test_errors_of_the_desk_within_a_trial(self):
        with self.assertRaises(UnknownName) as caught:
            with self.desk.trial() as desk:
                desk["m5"] = 5
                desk["m9"] = 5
        self.assertEqual(caught.exception.given, "m9")
        self.check_as_before()

    def test_errors_that_are_caught_end_no_trial(self):
        with self.desk.trial() as desk:
            desk["m5"] = 5
            with self.assertRaises(InvalidReading):
                desk["m5"] = "5"
            desk["m4"] = 0
            self.assertEqual(desk.readings, (7, 0, 3, 0, 5, 0))
        self.check_as_before()

    def test_undo_behind_the_beginning(self):
        with self.desk.trial() as desk:
            desk["m5"] = 5
            for _ in range(3):
                desk.undo()
            self.assertEqual(desk.changes, 0)
            self.assertRaises(NothingToUndo, desk.undo)
            desk["m2"] = 9
        self.check_as_before()

    def test_undo_and_an_error(self):
        with self.assertRaises(NothingToUndo):
            with self.desk.trial() as desk:
                while True:
                    desk.undo()
        self.check_as_before()

    def test_trials_within_trials(self):
        with self.desk.trial() as desk:
            desk["m5"] = 5
            inside = look(desk)
            with desk.trial() as same:
                same["m5"] = 6
                with same.trial():
                    same.undo()
                    same.undo()
                    same["m1"] = 1
                self.assertEqual(desk["m5"], 6)
                desk.undo()
                desk.undo()
            self.assertEqual(look(desk), inside)
            with self.assertRaises(Bang):
                with desk.trial():
                    desk["m1"] = None
                    raise Bang()
            self.assertEqual(look(desk), inside)
        self.check_as_before()

    def test_one_trial_used_again(self):
        trial = self.desk.trial()
        with trial:
            self.desk["m5"] = 1
            with trial:
                self.desk["m5"] = 2
            self.assertEqual(self.desk["m5"], 1)
        self.assertEqual(look(self.desk), self.before)
        self.desk["m5"] = 8
        with trial:
            self.desk["m5"] = 9
        self.assertEqual(self.desk["m5"], 8)
        self.desk.undo()
        self.check_as_before()

    def test_leaving_a_trial_in_other_ways(self):
        def leave():
            with self.desk.trial() as desk:
                desk["m1"] = 0
                return desk["m1"]

        self.assertEqual(leave(), 0)
        for _ in range(3):
            with self.desk.trial() as desk:
                desk["m1"] = 0
                break
        self.check_as_before()

    def test_tried(self):
        def action(desk):
            self.assertIs(desk, self.desk)
            desk.note(m5=4)
            return desk.readings, desk.explanations(0)

        self.assertEqual(self.desk.tried(action)[0], (7, 0, 3, 4, 4, 0))
        self.assertIsNone(self.desk.tried(lambda desk: desk.undo()))
        self.assertEqual(self.desk.tried(action=len), 5)
        self.assertEqual(self.desk.tried(lambda desk: desk.tried(lambda same: same is desk)), True)
        self.check_as_before()

    def test_tried_with_an_error(self):
        def action(desk):
            desk["m1"] = 0
            raise Bang("x")

        self.assertRaises(Bang, self.desk.tried, action)
        with self.desk.trial():
            self.assertRaises(Bang, self.desk.tried, action)
            self.assertEqual(self.desk["m1"], 7)
        self.check_as_before()

    def test_trials_of_two_desks(self):
        other = Desk(YARD)
        with self.desk.trial() as desk, other.trial() as more:
            desk["m1"] = 1
            more["m1"] = 2
        other["m1"] = 3
        self.assertEqual((other.readings, other.changes), ((3, None, None, None, None), 1))
        self.check_as_before()


class TestErrors(unittest.TestCase):
    def test_no_net(self):
        for value in odd_values() + odd_tuples() + [(), Net, str(YARD), Sum(), Desk(YARD)]:
            check_given(self, NotANet, value, Desk, value)
            check_given(self, NotANet, value, Desk, net=value)

    def test_unknown_names(self):
        desk = Desk(YARD)
        for value in odd_values() + odd_tuples() + [(), "src", "m6", "m", "M1", YARD.meters[0]]:
            check_given(self, UnknownName, value, desk.__getitem__, value)
            check_given(self, UnknownName, value, desk.__setitem__, value, 4)
            check_given(self, UnknownName, value, desk.__setitem__, value, "4")
        for name in ("src", "m6", "m", "m1 ", "", "\n"):
            self.assertEqual(raised(self, UnknownName, desk.note, **{name: 4}).given, name)
            self.assertEqual(raised(self, UnknownName, desk.note, **{"m1": 4, name: "4", "m2": 4}).given, name)
        self.assertEqual(look(desk)[:2], ((None,) * 5, 0))

    def test_no_reading(self):
        desk = Desk(SEALED)
        for value in no_readings():
            check_given(self, InvalidReading, value, desk.__setitem__, "m1", value)
            check_given(self, InvalidReading, value, desk.__setitem__, "m2", value)
            check_given(self, InvalidReading, value, desk.note, m1=value)
            check_given(self, InvalidReading, value, desk.note, m1=4, m2=4, m3=value, m4="4")
        check_given(self, InvalidReading, None, desk.__setitem__, "m2", None)
        check_given(self, InvalidReading, None, desk.note, m1=None, m2=None)
        self.assertEqual(look(desk)[:2], ((None, 0, None, None, None, 0), 0))

    def test_the_first_error_of_a_note(self):
        desk = Desk(YARD)
        desk["m1"] = 1
        self.assertEqual(raised(self, UnknownName, desk.note, m1=2, z=3, m2="x").given, "z")
        self.assertEqual(raised(self, InvalidReading, desk.note, m1=2, m2="x", z=3).given, "x")
        self.assertEqual(raised(self, InvalidReading, desk.note, m5="y", m2="x", z=3).given, "y")
        self.assertEqual(raised(self, UnknownName, desk.note, z="q", m2="x").given, "z")
        self.assertEqual((desk.readings, desk.changes), ((1, None, None, None, None), 1))
        desk.undo()
        self.assertEqual(desk.readings, (None,) * 5)

    def test_notes_take_names_only(self):
        self.assertRaises(TypeError, Desk(YARD).note, 4)

    def test_errors_of_answers(self):
        desk = Desk(YARD)
        for value in odd_values() + odd_tuples() + ["doubt", Rule, YARD]:
            check_given(self, NotARule, value, desk.outcome, value)
        self.assertEqual(raised(self, UnknownName, desk.outcome, Rule.read("tell m1 + z")).given, "z")
        for value in odd_numbers():
            check_given(self, InvalidNumber, value, desk.explanations, value)
            check_given(self, InvalidNumber, value, desk.sure, "src", value)
        for value in odd_values() + odd_tuples() + ["m1", "a"]:
            check_given(self, UnknownName, value, desk.sure, value)
            check_given(self, UnknownName, value, desk.sure, value, 9)
        desk.note(m1=7, m2=4, m3=4)
        self.assertEqual(raised(self, NoWorld, desk.sure, "src").most, 0)
        self.assertEqual(raised(self, NoWorld, desk.sure, "src", 0).most, 0)
        self.assertEqual(desk.explanations(0), ())


if __name__ == "__main__":
    unittest.main()
