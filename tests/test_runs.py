import unittest

from ringvotes.rules import Rule
from ringvotes.runs import DOUBTS, TELLS, TESTS, first_event, next_event


def events(text, silent, answers):
    """The texts of the sums of each test, with these answers in turn, and how the run ends."""
    steps = Rule.read(text).steps
    event = first_event(steps, silent)
    found = []
    for equal in answers:
        found.append(" ".join([str(total) for total in event[1]]))
        assert event[0] == TESTS
        event = next_event(steps, silent, event, equal)
    return found, event[0], [str(total) for total in event[1]]


class TestRuns(unittest.TestCase):
    def test_each_sum_is_tested_against_each_other_one(self):
        text = "vote 0: a, b, c\ndoubt"
        self.assertEqual(events(text, [], [True, True]), (["a b", "a c"], TELLS, ["a"]))
        self.assertEqual(events(text, [], [False, True, True]), (["a b", "b a", "b c"], TELLS, ["b"]))
        self.assertEqual(events(text, [], [True, False, False, False]), (["a b", "a c", "b a", "c a"], DOUBTS, []))

    def test_no_further_test_of_a_sum_with_enough_against_it(self):
        text = "vote 1: a, b, c, d\ntell e"
        self.assertEqual(
            events(text, [], [False, False] * 4),
            (["a b", "a c", "b a", "b c", "c a", "c b", "d a", "d b"], TELLS, ["e"]),
        )
        self.assertEqual(
            events(text, [], [True, False, False, False, True, True]),
            (["a b", "a c", "a d", "b a", "b c", "b d"], TELLS, ["b"]),
        )

    def test_silent_sums_are_not_tested(self):
        text = "if a == b go 2\nvote 2: a, b + c, d, c\ntell a - d"
        self.assertEqual(events(text, ["b"], [False, False]), (["a d", "a c"], TELLS, ["a"]))
        self.assertEqual(events(text, ["a"], [False] * 2), (["b + c d", "b + c c"], TELLS, ["b + c"]))
        self.assertEqual(events(text, ["a", "c"], []), ([], TELLS, ["d"]))
        self.assertEqual(events(text, ["a", "c", "d"], []), ([], DOUBTS, []))
        self.assertEqual(events(text, [], [True]), (["a b"], TELLS, ["a - d"]))

    def test_tests_of_if_rows(self):
        text = "if a == b go 2\nif c == 0 go 3\nif a == c go 3\ndoubt"
        self.assertEqual(events(text, [], [True, True])[0], ["a b", "a c"])
        self.assertEqual(events(text, [], [False, False, False])[0], ["a b", "c 0", "a c"])
        self.assertEqual(events(text, ["b"], [True]), (["c 0"], DOUBTS, []))
        self.assertEqual(events(text, ["a"], [False]), (["c 0"], DOUBTS, []))
        self.assertEqual(events(text, ["a", "c"], []), ([], DOUBTS, []))

    def test_equal_sums_count_as_two(self):
        self.assertEqual(events("vote 0: a, a\ndoubt", [], [True]), (["a a"], TELLS, ["a"]))
        self.assertEqual(events("vote 0: a, a\ndoubt", [], [False, False]), (["a a", "a a"], DOUBTS, []))


if __name__ == "__main__":
    unittest.main()
