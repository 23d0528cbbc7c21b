import unittest
from itertools import product

from ringvotes.errors import InvalidNumber, InvalidRows, InvalidText, NotASum
from ringvotes.rules import Rule
from ringvotes.sums import Sum
from tests.oracles import expected_row
from tests.support import (
    SameAsAll,
    Sour,
    check_all_given,
    check_given,
    check_index,
    edits,
    odd_tuples,
    odd_values,
    raised,
)

FORTY = 10 ** 40 - 1
ENDS = ("doubt", "tell 0", "tell m1", "tell -m1 + 2*m2 + m3", f"tell {FORTY}*a")
TESTS = ("if a == b go 1", "if 0 == 0 go 1", "if -3*a + b == 2*a - 10*b go 1", "if go == if go 1", "if a == a go 1")
VOTES = ("vote 0: a", "vote 3: a, b", "vote 1: m1, m2 + m3, m4 + m5", "vote 2: 0, 0, 0", "vote 0: vote, tell, doubt",
         "vote 3: " + ", ".join("abcdefghij"), "vote 0: " + ", ".join(["0"] * 10), f"vote 1: -{FORTY}*a, a - 2*b")
FULL = ("if a == b go 2", "if a == c go 7", "vote 0: a, b", "tell b", "if c == d go 5", "doubt", "vote 1: a, b, c",
        "doubt")


def no_rows():
    """Values that are no rows wherever they stand."""
    return [value for value in odd_values() + odd_tuples() if not isinstance(value, str)] + [
        "", " ", "\n", "Doubt", "doubt ", " doubt", "doubt\n", "\ndoubt", "doubts", "doub", "doubt 0", "doubt a",
        "doubt: a", "tell", "tell ", "tell  a", " tell a", "tell a ", "tell: a", "tells a", "Tell a", "tell\na",
        "tell a\n", "tella", "tell a, b", "tell a == b", "tell 1", "tell 1*a", "tell 0*a", "tell b + a", "tell a + a",
        "tell +a", "tell a+b", "tell a tell b", "tell 03*a", "tell A", "tell abcdefghi", "tell None", "tell -0",
        "go 1", "a", "0", "1", "vote", "vote ", "vote a", "vote 1", "vote 1:", "vote 1: ", "vote 1:a", "vote 1 : a",
        "vote  1: a", "vote 1:  a", "vote 1: a,b", "vote 1: a ,b", "vote 1: a , b", "vote 1: a,  b", "vote 1: a, ",
        "vote 1: , a", "vote 1: a, , b", "vote 1: a b", "vote 1: a; b", "vote 1: a,", "vote 1: a, b,", "vote 4: a",
        "vote 10: a", "vote 01: a", "vote -1: a", "vote -0: a", "vote +1: a", "vote 00: a", "vote : a", "vote a: b",
        "vote 1: 1", "vote 1: b + a", "vote 1: a, 1*b", "vote 1: a\n", "vote 1: a,\nb", "Vote 1: a", "votes 1: a",
        "vote vote 1: a", "vote 1: vote 1: a", "vote 1 1: a", "vote 1: a: b", "vote 1, a", "vote1: a", "vote 1.0: a",
        "vote 1_: a", "vote m: 1", "vote a, b: 1", "vote 0: " + ", ".join("abcdefghijk"),
        "vote 0: " + ", ".join(["0"] * 11), "vote 0: " + ", ".join(["a"] * 400), "if", "if ", "if a", "if a == b",
        "if a == b go", "if a == b go ", "if == b go 1", "if a == go 1", "if a go 1", "if  a == b go 1",
        "if a  == b go 1", "if a ==  b go 1", "if a == b  go 1", "if a == b go  1", "if a == b go 1 ",
        " if a == b go 1", "if a == b go 1\n", "if a\n== b go 1", "if a = b go 1", "if a === b go 1", "if a==b go 1",
        "if a ==b go 1", "if a== b go 1", "if a == b == c go 1", "if a == b go 01", "if a == b go 0",
        "if a == b go -1", "if a == b go +1", "if a == b go 8", "if a == b go 9", "if a == b go 10",
        "if a == b go 11", "if a == b go one", "if a == b go 1 go 1", "if a == b goto 1", "if a == b Go 1",
        "If a == b go 1", "if if a == b go 1", "go 1 if a == b", "if a b == go 1", "if a == b 1 go",
        "if b + a == b go 1", "if a == 1 go 1", "if 1*a == b go 1", "if a, b == c go 1", "if a == b, c go 1",
        "if a != b go 1", "ifa == b go 1", "if a == bgo 1", "if a == b go1", "if a == b go 1, 2", "if a == b go 1.",
        "if a == b go 1_", "if 00 == 0 go 1", "a == b go 1", "if a == b go 7 7", "if a == b go",
    ]


class TestRows(unittest.TestCase):
    def check_row(self, row, index, many):
        """A row with this index among so many is taken exactly if it is one; returns whether it is."""
        rows = ("doubt",) * index + (row,) + ("doubt",) * (many - index - 1)
        expected = expected_row(row, index, many)
        if expected is None:
            check_index(self, InvalidRows, index, Rule, rows)
        elif index == many - 1 and expected[0] not in ("tell", "doubt"):
            check_index(self, InvalidRows, index, Rule, rows)
        else:
            self.assertEqual(Rule(rows).rows, rows)
        return expected is not None

    def test_rows_of_each_kind(self):
        for row in ENDS + VOTES + TESTS:
            self.assertTrue(self.check_row(row, 0, 2))
        for row in ENDS:
            self.assertEqual(Rule((row,)).rows, (row,))
            self.assertEqual(Rule(("doubt",) * 7 + (row,)).rows[-1], row)
        for row in VOTES:
            self.assertTrue(self.check_row(row, 6, 8))

    def test_what_is_no_row(self):
        for value in no_rows():
            check_index(self, InvalidRows, 0, Rule, (value, "doubt"))
            check_index(self, InvalidRows, 1, Rule, ("if a == b go 2", value, "doubt"))
            check_index(self, InvalidRows, 0, Rule, (value,))
            check_index(self, InvalidRows, 2, Rule, rows=("doubt", "tell a", value))

    def test_where_a_row_goes_on(self):
        for many in range(1, 9):
            for index in range(many):
                for target in range(12):
                    taken = self.check_row(f"if a == b go {target}", index, many)
                    self.assertIs(taken, index < target < many)

    def test_one_edit_from_a_row(self):
        for row in ENDS[:4] + TESTS[:3] + VOTES[:5]:
            for other in edits(row, "ab01348:,=*+- \nAgv"):
                self.check_row(other, 0, 3)

    def test_words_exchanged_doubled_and_left_out(self):
        for row in ENDS + TESTS + VOTES:
            words = row.split(" ")
            for at in range(len(words)):
                self.check_row(" ".join(words[:at] + words[at + 1:]), 0, 3)
                self.check_row(" ".join(words[:at] + [words[at]] + words[at:]), 0, 3)
                for to in range(len(words)):
                    others = list(words)
                    others[at], others[to] = others[to], others[at]
                    self.check_row(" ".join(others), 0, 3)

    def test_rows_of_all_words(self):
        words = ("if", "vote", "tell", "doubt", "a", "0", "1", "==", "go", "1:", "a,", "+", "")
        found = [
            row for length in range(1, 5) for row in map(" ".join, product(words, repeat=length))
            if self.check_row(row, 0, 2)
        ]
        self.assertEqual(sorted(set([row.split(" ")[0] for row in found])), ["doubt", "tell", "vote"])
        tests = product(("a", "0", "+", "go"), ("==", "=", "a"), ("b", "0", "-b", ""), ("go", "==", "to"), "0123a")
        for words in tests:
            self.check_row("if " + " ".join(words), 0, 3)

    def test_numbers_of_sums(self):
        for many in range(1, 15):
            self.assertIs(self.check_row("vote 2: " + ", ".join(["a + b"] * many), 0, 2), many <= 10)

    def test_against(self):
        for number in ("", "0", "1", "2", "3", "4", "5", "9", "10", "00", "03", "-1", "+1", "x", "1 ", " 1", "1:"):
            self.assertIs(self.check_row(f"vote {number}: a, b", 0, 2), number in ("0", "1", "2", "3"))


class TestRules(unittest.TestCase):
    def test_properties(self):
        for rows in [("doubt",), ("tell m1",), FULL, FULL[-1:], FULL[-2:], FULL[-3:], FULL[2:4]]:
            rule = Rule(rows)
            self.assertEqual(rule.rows, rows)
            self.assertIs(rule.rows.__class__, tuple)
            self.assertEqual(len(rule), len(rows))
            self.assertEqual(str(rule), "\n".join(rows))
            self.assertIs(bool(rule), True)
            self.assertEqual(Rule(rows=rows), rule)

    def test_rules_do_not_change(self):
        rule = Rule(FULL)
        for name in ("rows", "meters"):
            self.assertRaises(AttributeError, setattr, rule, name, ())

    def test_meters(self):
        for rows, meters in (
            (("doubt",), ()),
            (("tell 0",), ()),
            (("tell m2 - m10 + z",), None),
            (("tell m10 - m2 + z",), ("m10", "m2", "z")),
            (("vote 1: z, a, z, a + b", "doubt"), ("a", "b", "z")),
            (("if m1 == m2 + m3 go 2", "tell m4 + m5", "tell m1"), ("m1", "m2", "m3", "m4", "m5")),
            (("if if == go go 1", "tell -3*vote"), ("go", "if", "vote")),
            (("if 0 == b go 1", "vote 0: 0, c", "tell a"), ("a", "b", "c")),
            (("if y == 0 go 1", "doubt"), ("y",)),
            (FULL, ("a", "b", "c", "d")),
        ):
            if meters is None:
                check_index(self, InvalidRows, 0, Rule, rows)
            else:
                self.assertEqual(Rule(rows).meters, meters)
                self.assertIs(Rule(rows).meters.__class__, tuple)

    def test_numbers_of_rows(self):
        for many in range(1, 9):
            self.assertEqual(len(Rule(("doubt",) * many)), many)
        for many in range(9, 14):
            check_index(self, InvalidRows, 8, Rule, ("doubt",) * many)
            check_index(self, InvalidRows, 8, Rule, ("doubt",) * 8 + ("vote 1: a",) * (many - 8))
            check_index(self, InvalidRows, 8, Rule, ("if a == b go 7",) * 7 + ("doubt",) * (many - 7))
            check_index(self, InvalidRows, 0, Rule, ("if a == b go 8",) * many)
            check_index(self, InvalidRows, 7, Rule, ("vote 0: a",) * 7 + ("if a == b go 8",) + ("doubt",) * (many - 8))
            check_index(self, InvalidRows, 8, Rule, ("doubt",) * 8 + (7,) * (many - 8))

    def test_no_tuple_and_no_rows(self):
        rule = Rule(("doubt",))
        for value in odd_values() + [(), [], ["doubt"], "doubt", {"doubt": 1}, rule, iter(("doubt",)), Rule]:
            check_index(self, InvalidRows, None, Rule, value)
            check_index(self, InvalidRows, None, Rule, rows=value)

    def test_the_last_row(self):
        for row in VOTES:
            check_index(self, InvalidRows, 0, Rule, (row,))
            check_index(self, InvalidRows, 2, Rule, ("doubt", "if a == b go 2", row))
            check_index(self, InvalidRows, 7, Rule, ("tell a",) * 7 + (row,))
        check_index(self, InvalidRows, 0, Rule, ("if a == b go 1",))
        check_index(self, InvalidRows, 1, Rule, ("doubt", "if a == b go 2"))

    def test_the_last_row_comes_behind_the_other_errors(self):
        check_index(self, InvalidRows, 1, Rule, ("doubt", "", "vote 1: a"))
        check_index(self, InvalidRows, 0, Rule, (None, "vote 1: a"))
        check_index(self, InvalidRows, 8, Rule, ("doubt",) * 8 + ("vote 1: a",))
        check_index(self, InvalidRows, 1, Rule, ("if a == b go 1", "if a == b go 1", "vote 0: a"))

    def test_the_first_wrong_row(self):
        for one, two in product(range(8), repeat=2):
            rows = ["doubt"] * 8
            rows[one], rows[two] = "tell", 7
            check_index(self, InvalidRows, min(one, two), Rule, tuple(rows))

    def test_equality(self):
        for one, two in product([("doubt",), ("tell 0",), ("tell a",), ("doubt", "tell a"), FULL, FULL[2:4]], repeat=2):
            self.assertIs(Rule(one) == Rule(two), one == two)
            self.assertIs(Rule(one) != Rule(two), one != two)
        rule = Rule(("doubt",))
        for value in odd_values() + odd_tuples() + ["doubt", ("doubt",), (), Rule, Sum(), rule.rows]:
            if not isinstance(value, (SameAsAll, Sour)):
                self.assertIs(value == rule, False)
                self.assertIs(value != rule, True)
            self.assertIs(rule == value, False)
            self.assertIs(rule != value, True)


class TestTexts(unittest.TestCase):
    def check(self, text):
        rows = text.split("\n")
        steps = [expected_row(row, index, len(rows)) for index, row in enumerate(rows)]
        if None in steps or len(rows) > 8 or steps[-1][0] not in ("tell", "doubt"):
            check_given(self, InvalidText, text, Rule.read, text)
            return False
        self.assertEqual(Rule.read(text).rows, tuple(rows))
        self.assertEqual(str(Rule.read(text=text)), text)
        self.assertIs(Rule.read(text).__class__, Rule)
        return True

    def test_texts_are_read_and_written(self):
        for rows in [FULL] + [(row,) for row in ENDS] + [(row, "doubt") for row in VOTES + TESTS]:
            self.assertTrue(self.check("\n".join(rows)))
            self.assertEqual(Rule.read("\n".join(rows)), Rule(rows))

    def test_numbers_of_rows(self):
        for many in range(12):
            self.assertIs(self.check("\n".join(["tell a"] * many)), 1 <= many <= 8)

    def test_edits(self):
        for text in ("\n".join(FULL), "if a == b go 2\nvote 1: a, b\ntell a", "doubt"):
            for other in edits(text, "a01:, \n*"):
                self.check(other)

    def test_newlines(self):
        for text in ("doubt\n", "\ndoubt", "doubt\n\ndoubt", "\n", "", "doubt\n\n", "tell a\ndoubt\n", "tell\na",
                     "doubt doubt", "doubt \ndoubt", "doubt\r\ndoubt", "vote 1: a\n", "vote 1: a",
                     "vote 1: a,\nb\ndoubt"):
            self.assertFalse(self.check(text), text)

    def test_all_lists_of_rows(self):
        words = ("doubt", "tell a", "if a == b go 1", "if a == b go 2", "vote 1: a", "tell", "")
        for many in range(1, 5):
            for rows in product(words, repeat=many):
                self.check("\n".join(rows))

    def test_values_that_are_no_strings(self):
        for value in odd_values() + odd_tuples() + [(), ("doubt",), ["doubt"], b"doubt", Rule(("doubt",)), Rule, Sum()]:
            check_given(self, InvalidText, value, Rule.read, value)
            check_given(self, InvalidText, value, Rule.read, text=value)

    def test_the_error_comes_alone(self):
        self.assertIsNone(raised(self, InvalidText, Rule.read, "tell").__cause__)


class TestVoting(unittest.TestCase):
    def test_one_to_ten_sums(self):
        for against in range(4):
            for many in range(1, 11):
                totals = [Sum.of(*"abcdefghij"[:index]) - 2 * Sum.of("z") for index in range(many)]
                rule = Rule.voting(against, *totals)
                row = f"vote {against}: " + ", ".join([str(total) for total in totals])
                self.assertEqual(rule.rows, (row, "doubt"))
                self.assertEqual(rule, Rule((row, "doubt")))
                self.assertIs(rule.__class__, Rule)

    def test_equal_sums_and_zero(self):
        self.assertEqual(Rule.voting(1, *[Sum.of("a")] * 3).rows, ("vote 1: a, a, a", "doubt"))
        self.assertEqual(Rule.voting(0, Sum()).rows, ("vote 0: 0", "doubt"))
        self.assertEqual(Rule.voting(3, Sum.of("b"), Sum(), Sum.of("a")).rows, ("vote 3: b, 0, a", "doubt"))

    def test_sums_of_any_size(self):
        big = Sum.of("a")
        for _ in range(130):
            big = big * FORTY
        self.assertEqual(Rule.voting(0, big, big).rows[0], f"vote 0: {big}, {big}")

    def test_no_sums_and_eleven(self):
        for against in range(4):
            check_index(self, InvalidRows, 0, Rule.voting, against)
            for many in (11, 12, 30):
                check_index(self, InvalidRows, 0, Rule.voting, against, *[Sum.of("a")] * many)
        check_index(self, InvalidRows, 0, Rule.voting, against=2)

    def test_no_number(self):
        values = odd_values() + odd_tuples() + [(), 4, -1, 5, 10 ** 39, "0", "1", (1,), True, False, None, Sum(), 1j]
        for value in values:
            # Of these values, 0, 1 and 2 are numbers that are taken.
            if value.__class__ is not int or not 0 <= value <= 3:
                check_given(self, InvalidNumber, value, Rule.voting, value)
                check_given(self, InvalidNumber, value, Rule.voting, value, Sum.of("a"))
                check_given(self, InvalidNumber, value, Rule.voting, value, None, *[Sum()] * 11)
                check_given(self, InvalidNumber, value, Rule.voting, against=value)

    def test_no_sum(self):
        values = odd_values() + odd_tuples() + [(), "a", (("a", 1),), Sum, Rule(("doubt",))]
        check_all_given(self, NotASum, values, Rule.voting, 1)
        check_all_given(self, NotASum, values, Rule.voting, 1, Sum.of("a"), behind=(None, Sum(), "b"))
        check_all_given(self, NotASum, values, Rule.voting, 1, *[Sum()] * 10)
        check_all_given(self, NotASum, values, Rule.voting, 1, *[Sum()] * 11, behind=(3,))

    def test_the_order_of_the_errors(self):
        self.assertEqual(raised(self, InvalidNumber, Rule.voting, 7, 8, 9).given, 7)
        self.assertEqual(raised(self, NotASum, Rule.voting, 1, 8, 9).given, 8)
        self.assertEqual(raised(self, NotASum, Rule.voting, 1, *[Sum()] * 12, 9).given, 9)


if __name__ == "__main__":
    unittest.main()
