import random
import unittest

from ringvotes.books import Book
from ringvotes.compared import same_readings
from ringvotes.errors import (
    BadName,
    Broken,
    InUse,
    InvalidIndex,
    InvalidName,
    InvalidWish,
    NotAnEntry,
    NothingToUndo,
    TooMany,
    UnknownName,
)
from ringvotes.judging import is_right
from ringvotes.nets import Meter, Net, Pipe
from ringvotes.rules import Rule
from ringvotes.strengths import can_tell
from ringvotes.sums import Sum
from ringvotes.votes import voting_rule
from tests.support import SameAsAll, Sour, check_given, odd_faults, odd_tuples, odd_values, raised

YARD = Net.read(
    "pipe src o a\npipe left a b\npipe right a c\npipe lout b o\npipe rout c o\n"
    "meter m1 src\nmeter m2 left\nmeter m3 right\nmeter m4 lout\nmeter m5 rout"
)
RULE = Rule(("if m1 == m2 + m3 go 2", "tell m4 + m5", "tell m1"))
DOUBT = Rule.read("doubt")
MANY = Net((Pipe("p", "x", "y"), Pipe("q", "y", "x")), tuple([Meter(f"m{at}", "pq"[at % 2]) for at in range(12)]))
TELLS = ("tells", "yard", "src", (1, 1, 0))
RIGHT = ("right", "yard", "src", "two", (1, 1, 0))
SAME = ("same", "yard", "other")


def filled():
    """A book with two nets, a rule and a wish of each form."""
    book = Book()
    book["yard"] = YARD
    book["other"] = Net(YARD.pipes, YARD.meters[::-1])
    book["two"] = RULE
    for wish in (TELLS, RIGHT, SAME):
        book.wish(wish)
    return book


def look(book):
    """All that a book tells of its state."""
    return book.names, [str(book[name]) for name in book.names], book.wishes, book.changes, len(book)


def history(book):
    """What the book tells of all its states, from the present one back to the beginning; undoes all changes."""
    states = [look(book)]
    while book.changes:
        book.undo()
        states.append(look(book))
    return states


def names_in(wish):
    """A, or A and B."""
    return {"tells": wish[1:2], "right": (wish[1], wish[3]) if len(wish) == 5 else (), "same": wish[1:3]}[wish[0]]


def judged(values, wish):
    """Whether a wish holds; "many" if there is too much to judge."""
    one, two = values[names_in(wish)[0]], values[names_in(wish)[-1]]
    if wish[0] == "tells":
        if not isinstance(one, Net) or wish[2] not in [pipe.name for pipe in one.pipes]:
            return False
        return can_tell(one, wish[2], wish[3])
    if wish[0] == "same":
        if not isinstance(one, Net) or not isinstance(two, Net):
            return False
        if {meter.name for meter in one.meters} != {meter.name for meter in two.meters}:
            return False
        return same_readings(one, two)
    if not isinstance(one, Net) or not isinstance(two, Rule) or wish[2] not in [pipe.name for pipe in one.pipes]:
        return False
    if not all(name in one for name in two.meters):
        return False
    try:
        return is_right(one, wish[2], two, wish[4])
    except TooMany:
        return "many"


class Bang(Exception):
    """An error of the tests."""


class TestBook(unittest.TestCase):
    def test_a_new_book(self):
        book = Book()
        self.assertEqual((book.names, book.wishes, book.changes, len(book)), ((), (), 0, 0))
        self.assertRaises(NothingToUndo, book.undo)
        self.assertRaises(TypeError, Book, 1)

    def test_values_under_names(self):
        book = Book()
        book["b"] = YARD
        book["a9"] = RULE
        book["abcdefgh"] = DOUBT
        self.assertEqual(book.names, ("a9", "abcdefgh", "b"))
        self.assertIs(book["b"], YARD)
        self.assertIs(book["a9"], RULE)
        self.assertEqual((len(book), book.changes), (3, 3))
        self.assertEqual(["b" in book, "a9" in book, "c" in book], [True, True, False])
        book["b"] = MANY
        book["a9"] = YARD
        self.assertIs(book["b"], MANY)
        self.assertIs(book["a9"], YARD)
        self.assertEqual((len(book), book.changes), (3, 5))

    def test_remove(self):
        book = Book()
        book["a"] = YARD
        book["b"] = RULE
        book.remove("a")
        self.assertEqual((book.names, book.changes), (("b",), 3))
        book.remove(name="b")
        self.assertEqual((book.names, len(book), book.changes), ((), 0, 4))
        self.assertEqual(raised(self, UnknownName, book.remove, "b").given, "b")
        self.assertEqual(raised(self, UnknownName, book.__getitem__, "b").given, "b")
        book.undo()
        self.assertIs(book["b"], RULE)

    def test_nothing_is_returned(self):
        book = Book()
        self.assertEqual([book.__setitem__("yard", YARD), book.wish(TELLS), book.lift(0), book.undo()], [None] * 4)
        self.assertIsNone(book.lift(0))
        self.assertIsNone(book.remove("yard"))

    def test_wishes(self):
        book = filled()
        self.assertEqual(book.wishes, (TELLS, RIGHT, SAME))
        self.assertTrue(all(one is two for one, two in zip(book.wishes, (TELLS, RIGHT, SAME))))
        self.assertEqual(book.changes, 6)
        book.wish(TELLS)
        self.assertEqual((book.wishes, book.changes), ((TELLS, RIGHT, SAME, TELLS), 7))
        book.wish(wish=("same", "yard", "yard"))
        book.wish(("tells", "yard", "left", (0, 0, 0)))
        self.assertEqual(len(book.wishes), 6)

    def test_lift(self):
        book = filled()
        book.lift(1)
        self.assertEqual((book.wishes, book.changes), ((TELLS, SAME), 7))
        book.lift(index=1)
        book.lift(0)
        self.assertEqual((book.wishes, book.changes), ((), 9))
        self.assertEqual(raised(self, InvalidIndex, book.lift, 0).given, 0)
        book.undo()
        self.assertEqual(book.wishes, (TELLS,))

    def test_in_use(self):
        book = filled()
        for name, index in (("yard", 0), ("two", 1), ("other", 2)):
            self.assertEqual(raised(self, InUse, book.remove, name).index, index)
        book.lift(0)
        self.assertEqual(raised(self, InUse, book.remove, "yard").index, 0)
        book.lift(0)
        self.assertEqual(raised(self, InUse, book.remove, "other").index, 0)
        book.remove("two")
        book.lift(0)
        book.remove("yard")
        self.assertEqual(book.names, ("other",))

    def test_pipes_are_no_names_of_the_book(self):
        book = Book()
        book["yard"] = YARD
        book["src"] = RULE
        book["left"] = YARD
        book.wish(("tells", "yard", "src", (1, 1, 0)))
        book.wish(("right", "yard", "src", "src", (1, 1, 0)))
        self.assertEqual(raised(self, InUse, book.remove, "src").index, 1)
        book.wish(("tells", "yard", "left", (0, 0, 0)))
        book.remove("left")
        self.assertEqual(book.names, ("src", "yard"))

    def test_undo_of_each_kind_of_change(self):
        book = Book()
        states = []
        for change in (
            lambda: book.__setitem__("yard", YARD), lambda: book.__setitem__("two", RULE), lambda: book.wish(TELLS),
            lambda: book.__setitem__("two", RULE), lambda: book.wish(RIGHT), lambda: book.lift(0),
            lambda: book.__setitem__("yard", YARD + Meter("m6", "src")), lambda: book.__setitem__("x", DOUBT),
            lambda: book.remove("x"), lambda: book.lift(0), lambda: book.remove("yard"), lambda: book.remove("two"),
            lambda: book.__setitem__("two", YARD),
        ):
            states.append(look(book))
            change()
            self.assertEqual(book.changes, len(states))
        states.append(look(book))
        self.assertEqual(history(book), states[::-1])
        self.assertEqual(vars(raised(self, NothingToUndo, book.undo)), {})
        self.assertEqual(look(book), states[0])

    def test_values_in_a_book(self):
        book = filled()
        for value in odd_values() + odd_tuples() + ["src", "m1", "Yard", "yard ", YARD, RULE, Sum.of("yard")]:
            self.assertIs(value in book, False)
        self.assertIs("yard" in book, True)

    def test_books_are_never_equal(self):
        one, two = Book(), Book()
        self.assertEqual((one == two, one != two), (False, True))
        for value in odd_values() + odd_tuples() + [YARD, Book, None, SameAsAll(), Sour()]:
            self.assertIs(one == value, False)
            self.assertIs(one != value, True)

    def test_each_book_is_true(self):
        self.assertEqual([bool(Book()), bool(filled())], [True, True])

    def test_books_change_alone(self):
        one, two = filled(), Book()
        self.assertEqual((two.names, two.wishes, two.changes), ((), (), 0))
        one["new"] = YARD
        self.assertEqual(look(two), look(Book()))

    def test_properties_are_not_set(self):
        for name in ("names", "wishes", "changes"):
            with self.assertRaises(AttributeError):
                setattr(Book(), name, ())


class TestWishesThatDoNotHold(unittest.TestCase):
    def check_refused(self, book, error, call, *values):
        """The call raises this error, and the book is as before; returns the error."""
        before = look(book)
        found = raised(self, error, call, *values)
        self.assertEqual(look(book), before)
        return found

    def check_broken(self, book, index, call, *values):
        found = self.check_refused(book, Broken, call, *values)
        self.assertEqual((found.index, found.index.__class__), (index, int))

    def test_new_wishes(self):
        book = filled()
        for wish in (
            ("tells", "yard", "src", (1, 1, 1)), ("tells", "yard", "z", (0, 0, 0)), ("tells", "two", "src", (0, 0, 0)),
            ("tells", "yard", "m1", (0, 0, 0)),
            ("right", "yard", "src", "two", (0, 2, 0)), ("right", "yard", "left", "two", (0, 0, 0)),
            ("right", "yard", "z", "two", (0, 0, 0)), ("right", "two", "src", "two", (0, 0, 0)),
            ("right", "yard", "src", "other", (0, 0, 0)), ("right", "two", "src", "yard", (0, 0, 0)),
            ("same", "yard", "two"), ("same", "two", "yard"), ("same", "two", "two"),
        ):
            self.check_broken(book, 3, book.wish, wish)
        book["less"] = YARD - "m5"
        book["moved"] = YARD + Meter("m5", "src")
        for wish in (("same", "less", "yard"), ("same", "yard", "less"), ("same", "moved", "yard"),
                     ("right", "less", "src", "two", (0, 0, 0)), ("right", "moved", "src", "two", (0, 0, 1))):
            self.check_broken(book, 3, book.wish, wish)

    def test_values_put_in_the_place_of_others(self):
        book = filled()
        book.wish(("tells", "other", "src", (0, 0, 0)))
        for name, value, index in (
            ("yard", YARD - "m1", 0), ("yard", RULE, 0), ("yard", MANY, 0),
            # The first wish still holds here, since a meter more stands for the missing one.
            ("yard", YARD - "m5" + Meter("m6", "rout"), 1), ("yard", YARD + Meter("m6", "src"), 2),
            ("two", YARD, 1), ("two", DOUBT, 1), ("two", Rule.read("tell m1"), 1), ("two", Rule.read("tell m9"), 1),
            ("other", RULE, 2), ("other", YARD - "m2", 2), ("other", MANY, 2), ("other", Net.read("pipe p x y"), 2),
        ):
            self.check_broken(book, index, book.__setitem__, name, value)
        book["yard"] = YARD + Meter("m1", "src", sealed=True)
        book["two"] = Rule.voting(1, Sum.of("m1"), Sum.read("m2 + m3"), Sum.read("m4 + m5"))
        book["other"] = Net(YARD.pipes[::-1], YARD.meters)
        self.assertEqual(book.changes, 10)

    def test_the_first_wish_decides(self):
        book = Book()
        book["a"] = book["b"] = book["c"] = YARD
        for wish in (("same", "b", "c"), ("tells", "a", "src", (1, 1, 0)), ("same", "a", "b"), ("same", "c", "a")):
            book.wish(wish)
        for name, index in (("a", 1), ("b", 0), ("c", 0)):
            self.check_broken(book, index, book.__setitem__, name, YARD - "m3")
        self.check_broken(book, 2, book.__setitem__, "a", YARD + Meter("m3", "left") + Meter("m6", "right"))

    def test_too_many(self):
        book = Book()
        book["many"] = MANY
        book["vote"] = voting_rule(MANY, "p", (2, 2, 1))
        book["doubt"] = DOUBT
        book.wish(("right", "many", "p", "vote", (2, 2, 1)))
        for rule, faults in (("vote", (2, 2, 2)), ("doubt", (3, 3, 1)), ("doubt", (0, 2, 2))):
            wish = ("right", "many", "p", rule, faults)
            self.assertEqual(self.check_refused(book, TooMany, book.wish, wish).limit, 1000)
        # What cannot be judged otherwise is broken, however much there is to judge.
        book["other"] = Rule.read("tell z")
        for wish in (("right", "many", "z", "doubt", (3, 3, 3)), ("right", "many", "p", "other", (3, 3, 3)),
                     ("right", "many", "p", "many", (3, 3, 3)), ("right", "doubt", "p", "doubt", (3, 3, 3))):
            self.check_broken(book, 1, book.wish, wish)

    def test_too_many_or_broken_by_the_order_of_the_wishes(self):
        few = Net(MANY.pipes, MANY.meters[:6])
        for first in ("right", "tells"):
            book = Book()
            book["net"] = few
            book["vote"] = voting_rule(few, "p", (1, 1, 3))
            wishes = {"right": ("right", "net", "p", "vote", (1, 1, 3)), "tells": ("tells", "net", "q", (1, 1, 3))}
            book.wish(wishes.pop(first))
            book.wish(list(wishes.values())[0])
            # Neither wish can be kept: there are too many pairs, and too few meters on the ring of q and r.
            other = Net(MANY.pipes + (Pipe("r", "x", "y"),), MANY.meters) + Meter("m11", "p")
            if first == "right":
                self.assertEqual(self.check_refused(book, TooMany, book.__setitem__, "net", other).limit, 1000)
            else:
                self.check_broken(book, 0, book.__setitem__, "net", other)
            self.assertIs(book["net"], few)

    def test_wishes_that_are_not_concerned_stay(self):
        book = filled()
        book["free"] = DOUBT
        book["free"] = MANY
        book["free"] = RULE
        book.remove("free")
        self.assertEqual(book.changes, 10)

    def test_drawn_deeds(self):
        dice = random.Random(210)
        values = [
            YARD, YARD + Meter("m1", "left"), YARD + Meter("m2", "lout"), YARD + Meter("m3", "right", sealed=True),
            YARD - "m5", Net(YARD.pipes[::-1], YARD.meters), YARD + Meter("m6", "src"), RULE, DOUBT, Rule.read("tell m1"),
            Rule.voting(1, Sum.of("m1"), Sum.read("m2 + m3"), Sum.read("m4 + m5")), Rule.read("tell m2 + m3"),
        ]
        counts = {}
        for _ in range(25):
            book, states = Book(), [({}, ())]
            for _ in range(40):
                kept, wishes = states[-1]
                deed = dice.choice(("put", "put", "put", "wish", "wish", "wish", "lift", "remove", "undo"))
                told = self.do(dice, book, deed, kept, wishes, values, states)
                counts[deed, told] = counts.get((deed, told), 0) + 1
                self.assertEqual(book.names, tuple(sorted(states[-1][0])))
                self.assertEqual([book[name] for name in book.names], [states[-1][0][name] for name in book.names])
                self.assertEqual((book.wishes, book.changes), (states[-1][1], len(states) - 1))
                # After each change all wishes hold.
                self.assertTrue(all(judged(states[-1][0], wish) is True for wish in book.wishes))
        for deed in (("put", "done"), ("put", "broken"), ("wish", "done"), ("wish", "broken"), ("remove", "used"),
                     ("remove", "done"), ("lift", "done"), ("undo", "done")):
            self.assertGreater(counts.get(deed, 0), 5, (deed, counts))

    def do(self, dice, book, deed, kept, wishes, values, states):
        """Does a drawn deed, and what it is to do to the states; returns how it went."""
        name = dice.choice("abcd")
        if deed == "put":
            value = dice.choice(values)
            after = {**kept, name: value}
            broken = [index for index, wish in enumerate(wishes) if judged(after, wish) is not True]
            if broken:
                self.check_broken(book, broken[0], book.__setitem__, name, value)
                return "broken"
            book[name] = value
            states.append((after, wishes))
            return "done"
        if deed == "wish":
            faults = dice.choice(((0, 0, 0), (1, 1, 0), (0, 1, 0), (0, 0, 1)))
            wish = dice.choice((
                ("tells", name, dice.choice(("src", "left")), faults),
                ("right", name, "src", dice.choice("abcd"), faults), ("same", name, dice.choice("abcd")),
            ))
            missing = [one for one in names_in(wish) if one not in kept]
            if missing:
                self.assertEqual(self.check_refused(book, UnknownName, book.wish, wish).given, missing[0])
                return "missing"
            if judged(kept, wish) is not True:
                self.check_broken(book, len(wishes), book.wish, wish)
                return "broken"
            book.wish(wish)
            states.append((kept, wishes + (wish,)))
            return "done"
        if deed == "lift":
            index = dice.randint(0, 3)
            if index >= len(wishes):
                self.assertEqual(self.check_refused(book, InvalidIndex, book.lift, index).given, index)
                return "missing"
            book.lift(index)
            states.append((kept, wishes[:index] + wishes[index + 1:]))
            return "done"
        if deed == "remove":
            using = [index for index, wish in enumerate(wishes) if name in names_in(wish)]
            if name not in kept:
                self.assertEqual(self.check_refused(book, UnknownName, book.remove, name).given, name)
                return "missing"
            if using:
                self.assertEqual(self.check_refused(book, InUse, book.remove, name).index, using[0])
                return "used"
            book.remove(name)
            states.append(({one: kept[one] for one in kept if one != name}, wishes))
            return "done"
        if len(states) == 1:
            self.check_refused(book, NothingToUndo, book.undo)
            return "missing"
        book.undo()
        states.pop()
        return "done"


class TestTrials(unittest.TestCase):
    def test_all_deeds_stay_if_the_block_ends_well(self):
        book = filled()
        with book.trial() as same:
            self.assertIs(same, book)
            book["new"] = DOUBT
            book.lift(0)
        self.assertEqual((book.changes, book.wishes, "new" in book), (8, (RIGHT, SAME), True))
        book.undo()
        book.undo()
        self.assertEqual(history(book), history(filled()))

    def test_undo_within_a_block_stays(self):
        book = filled()
        with book.trial():
            book.undo()
            book.undo()
            book["x"] = DOUBT
        self.assertEqual((book.wishes, book.changes), ((TELLS,), 5))

    def test_a_block_that_ends_with_an_error(self):
        book, given = filled(), Bang("x")
        with self.assertRaises(Bang) as caught:
            with book.trial():
                book["new"] = DOUBT
                book.lift(0)
                book.remove("new")
                raise given
        self.assertIs(caught.exception, given)
        self.assertEqual(history(book), history(filled()))

    def test_a_block_that_undoes_what_was_before_it(self):
        book = filled()
        with self.assertRaises(NothingToUndo):
            with book.trial():
                while True:
                    book.undo()
        self.assertEqual(history(book), history(filled()))
        book = filled()
        with self.assertRaises(Bang):
            with book.trial():
                for _ in range(4):
                    book.undo()
                book["x"] = YARD
                raise Bang()
        self.assertEqual(history(book), history(filled()))

    def test_refused_deeds(self):
        book = filled()
        with self.assertRaises(Broken) as caught:
            with book.trial():
                book["new"] = DOUBT
                book["yard"] = DOUBT
        self.assertEqual(caught.exception.index, 0)
        self.assertEqual(look(book), look(filled()))
        with book.trial():
            book["new"] = DOUBT
            self.assertRaises(Broken, book.__setitem__, "yard", DOUBT)
            self.assertRaises(BadName, book.remove, "yard")
            book.lift(2)
        self.assertEqual((book.wishes, "new" in book, book.changes), ((TELLS, RIGHT), True, 8))

    def test_trials_within_trials(self):
        book = filled()
        with book.trial():
            book.lift(2)
            with self.assertRaises(Bang):
                with book.trial():
                    book.lift(1)
                    with book.trial():
                        book.lift(0)
                    self.assertEqual(book.wishes, ())
                    raise Bang()
            self.assertEqual((book.wishes, book.changes), ((TELLS, RIGHT), 7))
            with book.trial():
                book["new"] = DOUBT
        self.assertEqual((book.wishes, book.changes, len(book)), ((TELLS, RIGHT), 8, 4))
        with self.assertRaises(Bang):
            with book.trial():
                with book.trial():
                    book.remove("new")
                self.assertEqual(len(book), 3)
                raise Bang()
        self.assertEqual((book.changes, len(book)), (8, 4))

    def test_one_trial_used_again(self):
        book = filled()
        trial = book.trial()
        with self.assertRaises(Bang):
            with trial:
                book["x"] = DOUBT
                with self.assertRaises(Bang):
                    with trial:
                        book["y"] = DOUBT
                        raise Bang()
                self.assertEqual(book.names, ("other", "two", "x", "yard"))
                raise Bang()
        self.assertEqual(history(book), history(filled()))

    def test_tried(self):
        book = filled()

        def action(same):
            self.assertIs(same, book)
            same["new"] = DOUBT
            return same.names

        self.assertEqual(book.tried(action), ("new", "other", "two", "yard"))
        self.assertEqual(book.changes, 7)
        self.assertEqual(book.tried(action=lambda same: same.remove("new")), None)
        self.assertEqual(book.changes, 8)

        def failing(same):
            same["x"] = DOUBT
            raise Bang()

        self.assertRaises(Bang, book.tried, failing)
        self.assertEqual((book.changes, book.names), (8, ("other", "two", "yard")))
        self.assertEqual(book.tried(lambda same: same.tried(len)), 3)


class TestErrors(unittest.TestCase):
    def setUp(self):
        self.book = filled()

    def tearDown(self):
        self.assertEqual(look(self.book), look(filled()))

    def test_no_name(self):
        for value in odd_values() + odd_tuples() + [(), "Yard", "yard ", "", "1a", "abcdefghi", YARD]:
            check_given(self, InvalidName, value, self.book.__setitem__, value, YARD)
            check_given(self, InvalidName, value, self.book.__setitem__, value, value)

    def test_no_entry(self):
        for value in odd_values() + odd_tuples() + [(), "doubt", str(YARD), Net, Rule, Sum(), YARD.pipes[0], Book()]:
            check_given(self, NotAnEntry, value, self.book.__setitem__, "yard", value)
            check_given(self, NotAnEntry, value, self.book.__setitem__, "new", value)

    def test_unknown_names(self):
        for value in odd_values() + odd_tuples() + [(), "new", "src", "Yard", YARD]:
            check_given(self, UnknownName, value, self.book.__getitem__, value)
            check_given(self, UnknownName, value, self.book.remove, value)

    def wrong_wishes(self):
        """Values that are no wishes."""
        names = [value for value in odd_values() + odd_tuples()] + [(), "A", "a b", "abcdefghi", ""]
        wishes = odd_values() + odd_tuples() + [
            (), ("tells",), ("same",), ("right",), ("same", "yard"), ("same", "yard", "other", "two"), ("tells", "yard", "src"),
            TELLS + (1,), TELLS[:3], RIGHT + (1,), RIGHT[:4], SAME + (1,), list(TELLS), list(RIGHT), list(SAME),
            TELLS[1:], (TELLS,), ("tell",) + TELLS[1:], ("Tells",) + TELLS[1:], ("same",) + TELLS[1:], ("right",) + TELLS[1:],
            ("tells",) + SAME[1:], ("right",) + SAME[1:], ("tells",) + RIGHT[1:], ("same",) + RIGHT[1:],
            ("misleads",) + TELLS[1:], ("differ",) + SAME[1:], ("tells ",) + TELLS[1:], (SameAsAll(),) + TELLS[1:],
            (Sour(),) + SAME[1:], (b"same",) + SAME[1:], (None,) + RIGHT[1:], ("same", "yard", SameAsAll()), "tells",
            ("same", YARD, YARD), ("tells", "yard", YARD.pipes[0], (0, 0, 0)), ("right", "yard", "src", RULE, (0, 0, 0)),
        ]
        for form in (TELLS, RIGHT, SAME):
            for at in range(1, 4 if form is RIGHT else 3):
                wishes += [form[:at] + (name,) + form[at + 1:] for name in names]
        for faults in odd_faults():
            wishes += [TELLS[:3] + (faults,), RIGHT[:4] + (faults,)]
        return wishes

    def test_no_wish(self):
        for value in self.wrong_wishes():
            check_given(self, InvalidWish, value, self.book.wish, value)

    def test_wishes_with_names_that_the_book_does_not_have(self):
        for wish, name in (
            (("tells", "new", "src", (3, 3, 3)), "new"), (("same", "new", "yard"), "new"), (("same", "yard", "new"), "new"),
            (("same", "b", "a"), "b"), (("right", "new", "src", "two", (0, 0, 0)), "new"), (("same", "two", "new"), "new"),
            (("right", "yard", "src", "new", (0, 0, 0)), "new"), (("right", "b", "z", "a", (0, 0, 0)), "b"),
            (("right", "two", "z", "a", (0, 0, 0)), "a"), (("tells", "src", "src", (0, 0, 0)), "src"),
        ):
            self.assertEqual(raised(self, UnknownName, self.book.wish, wish).given, name)

    def test_no_index(self):
        values = [value for value in odd_values() + odd_tuples() if value.__class__ is not int or not 0 <= value < 3]
        for value in values + [3, 4, -1, -3, "0", True, False, None, TELLS, (0,)]:
            check_given(self, InvalidIndex, value, self.book.lift, value)

    def test_the_order_of_the_checks(self):
        check_given(self, InvalidName, 1, self.book.__setitem__, 1, 2)
        check_given(self, NotAnEntry, 2, self.book.__setitem__, "yard", 2)
        self.assertEqual(raised(self, Broken, self.book.__setitem__, "yard", RULE).index, 0)
        wish = ("tells", "new", "src", (1, 0, 0))
        check_given(self, InvalidWish, wish, self.book.wish, wish)


if __name__ == "__main__":
    unittest.main()
