import unittest

from ringvotes.errors import InvalidName, InvalidNumber, InvalidTerms, NotASum
from ringvotes.nets import Meter, Net, Pipe
from ringvotes.sums import Sum
from tests.support import SameAsAll, Sour, check_given, check_index, nested, odd_tuples, odd_values

FORTY = 10 ** 40 - 1
NAMES = ("a", "z", "a0", "m1", "a9z0", "abcdefgh", "z9999999", "pipe")


def other_values():
    """Values that are no Sum and no name."""
    pipe = Pipe("p", "a", "b")
    return odd_values() + odd_tuples() + [(), pipe, Meter("m", "p"), Net((pipe,)), Sum]


class TestMaking(unittest.TestCase):
    def test_terms_by_position_by_name_and_left_out(self):
        self.assertEqual(Sum((("b", 2), ("a", -1))).terms, (("a", -1), ("b", 2)))
        self.assertEqual(Sum(terms=(("b", 2), ("a", -1))).terms, (("a", -1), ("b", 2)))
        self.assertEqual(Sum().terms, ())
        self.assertEqual(Sum(()).terms, ())

    def test_equal_names_are_added(self):
        self.assertEqual(Sum((("a", 2), ("b", 1), ("a", 3), ("a", -1))).terms, (("a", 4), ("b", 1)))
        self.assertEqual(Sum((("a", FORTY), ("a", -FORTY + 1))).terms, (("a", 1),))

    def test_terms_that_come_to_0_are_gone(self):
        self.assertEqual(Sum((("a", 0),)).terms, ())
        self.assertEqual(Sum((("a", 2), ("b", 1), ("a", -2))).terms, (("b", 1),))
        self.assertEqual(Sum((("a", 2), ("a", -2), ("a", 7))).terms, (("a", 7),))

    def test_terms_are_ascending_as_python_compares_strings(self):
        names = ("b", "a", "a10", "a1", "aa", "a9", "ab", "z", "a2")
        terms = Sum(tuple((name, 1) for name in names)).terms
        self.assertEqual([name for name, _ in terms], ["a", "a1", "a10", "a2", "a9", "aa", "ab", "b", "z"])

    def test_terms_are_a_tuple_of_pairs(self):
        terms = Sum((("b", 2), ("a", 1))).terms
        self.assertEqual([terms.__class__] + [term.__class__ for term in terms], [tuple] * 3)

    def test_every_name_is_taken(self):
        for name in NAMES:
            self.assertEqual(Sum(((name, 5),)).terms, ((name, 5),))

    def test_integers_of_forty_digits(self):
        for number in (FORTY, -FORTY, 10 ** 39):
            self.assertEqual(Sum((("a", number),)).terms, (("a", number),))

    def test_no_tuple(self):
        for value in odd_values() + [Sum.of("a"), iter([("a", 1)]), zip("a", [1])]:
            check_index(self, InvalidTerms, None, Sum, value)
            check_index(self, InvalidTerms, None, Sum, terms=value)

    def test_elements_that_are_no_pairs(self):
        for value in odd_values() + [(), ("a",), ("a", 1, 2), (1, "a"), ["a", 1], "a1", {"a": 1, "b": 2}, Sum.of("a")]:
            check_index(self, InvalidTerms, 0, Sum, (value,))
            check_index(self, InvalidTerms, 2, Sum, (("a", 1), ("b", 2), value))

    def test_pairs_with_what_is_no_name(self):
        for value in other_values():
            check_index(self, InvalidTerms, 1, Sum, (("a", 1), (value, 1)))

    def test_pairs_with_what_is_no_integer(self):
        for value in [None, True, False, "1", "", b"1", [1], (1,), {}, object(), 1j, Sour(), SameAsAll(), Sum.of("a")]:
            check_index(self, InvalidTerms, 1, Sum, (("a", 1), ("a", value)))

    def test_the_first_wrong_element_is_named(self):
        check_index(self, InvalidTerms, 1, Sum, (("a", 1), ("B", 1), ("c", True), None))
        check_index(self, InvalidTerms, 2, Sum, (("a", 1), ("b", 1), ("c", True), ("D", 1)))

    def test_the_argument_stays_as_it_was(self):
        terms = (("b", 2), ("a", 1), ("b", 0))
        Sum(terms)
        self.assertEqual(terms, (("b", 2), ("a", 1), ("b", 0)))


class TestOf(unittest.TestCase):
    def test_counts_how_often_a_name_was_passed(self):
        self.assertEqual(Sum.of("b", "a", "b", "b").terms, (("a", 1), ("b", 3)))
        self.assertEqual(Sum.of("m1").terms, (("m1", 1),))
        self.assertEqual(Sum.of(*NAMES).terms, tuple((name, 1) for name in sorted(NAMES)))

    def test_without_names(self):
        self.assertEqual(Sum.of(), Sum())

    def test_gives_a_sum(self):
        self.assertIs(Sum.of("a").__class__, Sum)

    def test_what_is_no_name(self):
        for value in other_values() + [Sum.of("a")]:
            check_given(self, InvalidName, value, Sum.of, value)
            check_given(self, InvalidName, value, Sum.of, "a", value, None, "B")


class TestAsking(unittest.TestCase):
    def setUp(self):
        self.total = Sum((("m2", 3), ("a", -1), ("gone", 1), ("gone", -1)))

    def test_length(self):
        self.assertEqual([len(self.total), len(Sum()), len(Sum.of("a", "a"))], [2, 0, 1])

    def test_every_sum_is_true(self):
        self.assertIs(bool(self.total), True)
        self.assertIs(bool(Sum()), True)
        self.assertIs(not Sum.of("a") - Sum.of("a"), False)

    def test_coefficients(self):
        found = [self.total[name] for name in ("m2", "a", "gone", "m1", "abcdefgh", "z9")]
        self.assertEqual(found, [3, -1, 0, 0, 0, 0])
        self.assertEqual([Sum()[name] for name in NAMES], [0] * len(NAMES))

    def test_coefficient_of_what_is_no_name(self):
        for value in other_values() + [self.total]:
            check_given(self, InvalidName, value, lambda given: self.total[given], value)
            check_given(self, InvalidName, value, lambda given: Sum()[given], value)

    def test_in(self):
        found = [name in self.total for name in ("m2", "a", "gone", "m1", "abcdefgh")]
        self.assertEqual(found, [True, True, False, False, False])
        self.assertEqual([name in Sum() for name in NAMES], [False] * len(NAMES))

    def test_in_with_any_value(self):
        for value in other_values() + [self.total, ("a", -1)]:
            self.assertIs(value in self.total, False)
            self.assertIs(value not in self.total, True)

    def test_equality(self):
        self.assertTrue(Sum.of("a", "b") == Sum((("b", 1), ("c", 0), ("a", 1))))
        self.assertFalse(Sum.of("a", "b") != Sum((("b", 1), ("c", 0), ("a", 1))))
        self.assertTrue(Sum() == Sum.of("a") - Sum.of("a"))
        for two in (Sum(), Sum.of("a"), Sum.of("b"), Sum.of("a", "b", "b"), -Sum.of("a", "b"), Sum.of("a", "b", "c")):
            self.assertFalse(Sum.of("a", "b") == two)
            self.assertTrue(Sum.of("a", "b") != two)

    def test_no_sum_is_equal_to_any_other_value(self):
        for total in (self.total, Sum()):
            for value in other_values() + [total.terms, str(total), 0, "0"]:
                self.assertIs(total == value, False)
                self.assertIs(total != value, True)

    def test_other_values_are_not_equal_to_a_sum(self):
        for value in (None, 0, "a", (), (("a", 1),), [], {}, "m2", Pipe("a", "b", "c"), Meter("a", "b")):
            self.assertIs(value == Sum.of("a"), False)
            self.assertIs(value != Sum.of("a"), True)

    def test_results_are_of_plain_kinds(self):
        self.assertIs(("a" in self.total).__class__, bool)
        self.assertIs(("b" in self.total).__class__, bool)
        self.assertIs((self.total == Sum()).__class__, bool)
        self.assertIs(str(self.total).__class__, str)

    def test_terms_cannot_be_set(self):
        with self.assertRaises(AttributeError):
            self.total.terms = ()
        self.assertEqual(self.total.terms, (("a", -1), ("m2", 3)))

    def test_equal_calls_give_equal_results(self):
        self.assertEqual(self.total.terms, self.total.terms)
        self.assertEqual(Sum.read("a - b"), Sum.read("a - b"))


class TestOperators(unittest.TestCase):
    def setUp(self):
        self.one = Sum((("a", 2), ("b", -1), ("c", 5)))
        self.two = Sum((("b", 1), ("c", 3), ("d", 4)))

    def tearDown(self):
        self.assertEqual(self.one.terms, (("a", 2), ("b", -1), ("c", 5)))
        self.assertEqual(self.two.terms, (("b", 1), ("c", 3), ("d", 4)))

    def test_plus(self):
        self.assertEqual((self.one + self.two).terms, (("a", 2), ("c", 8), ("d", 4)))
        self.assertEqual((self.two + self.one).terms, (("a", 2), ("c", 8), ("d", 4)))
        self.assertEqual(self.one + Sum(), self.one)
        self.assertEqual(Sum() + self.one, self.one)

    def test_minus(self):
        self.assertEqual((self.one - self.two).terms, (("a", 2), ("b", -2), ("c", 2), ("d", -4)))
        self.assertEqual((self.two - self.one).terms, (("a", -2), ("b", 2), ("c", -2), ("d", 4)))
        self.assertEqual((self.one - self.one).terms, ())
        self.assertEqual((Sum() - self.two).terms, (("b", -1), ("c", -3), ("d", -4)))

    def test_sign(self):
        self.assertEqual((-self.one).terms, (("a", -2), ("b", 1), ("c", -5)))
        self.assertEqual((-Sum()).terms, ())
        self.assertEqual(-(-self.one), self.one)

    def test_times(self):
        for number in (0, 1, -1, 2, -7, FORTY, -FORTY, 10 ** 20):
            expected = tuple((name, number * worth) for name, worth in self.one.terms if number)
            self.assertEqual((number * self.one).terms, expected)
            self.assertEqual((self.one * number).terms, expected)
            self.assertEqual((number * Sum()).terms, ())

    def test_in_place_signs_make_new_sums(self):
        total = self.one
        total += self.two
        total -= Sum.of("a")
        total *= 2
        self.assertEqual(str(total), "2*a + 16*c + 8*d")

    def test_results_are_sums(self):
        for total in (self.one + self.two, self.one - self.two, -self.one, 3 * self.one, self.one * 3):
            self.assertIs(total.__class__, Sum)

    def test_numbers_of_forty_digits(self):
        big = Sum((("a", FORTY), ("b", -FORTY)))
        self.assertEqual((big - Sum((("a", FORTY - 1),))).terms, (("a", 1), ("b", -FORTY)))
        self.assertEqual((big + Sum((("b", FORTY),))).terms, (("a", FORTY),))

    def test_plus_and_minus_with_what_is_no_sum(self):
        for value in other_values() + ["a", "m2 + m3", (("a", 1),)]:
            for total in (self.one, Sum()):
                check_given(self, NotASum, value, lambda two: total + two, value)
                check_given(self, NotASum, value, lambda two: total - two, value)

    def test_times_with_what_is_no_integer(self):
        values = [value for value in other_values() if value.__class__ is not int]
        self.assertTrue(any(value is True for value in values))
        for value in values + ["a", "2", self.two, self.one]:
            for total in (self.one, Sum()):
                check_given(self, InvalidNumber, value, lambda two: total * two, value)


class TestBigValues(unittest.TestCase):
    def test_sums_that_were_returned_may_be_passed_on_whatever_their_size(self):
        total = Sum.of("a", "b", "b")
        for _ in range(150):
            total = total * FORTY
        worth = FORTY ** 150
        self.assertEqual(total.terms, (("a", worth), ("b", 2 * worth)))
        self.assertEqual(Sum.read(str(total)), total)
        self.assertEqual(Sum.read(str(-total)), -total)

    def test_numbers_of_all_lengths(self):
        for length in range(1, 200):
            for number in (10 ** length, 10 ** length - 1, 10 ** length + 7, 123 * 10 ** length):
                total = Sum((("a", number), ("b", -number)))
                self.assertEqual(str(total), f"{number}*a - {number}*b")
                self.assertEqual(Sum.read(str(total)), total)

    def test_long_texts_that_were_returned_are_read(self):
        total = Sum(tuple((f"m{index}", index - 300) for index in range(2000)))
        self.assertEqual(len(total), 1999)
        self.assertGreater(len(str(total)), 4000)
        self.assertEqual(Sum.read(str(total)), total)

    def test_deep_values(self):
        deep = nested(tuple, 200)
        check_index(self, InvalidTerms, 0, Sum, deep)
        check_index(self, InvalidTerms, 0, Sum, (("a", deep),))
        check_given(self, NotASum, deep, lambda two: Sum() + two, deep)


if __name__ == "__main__":
    unittest.main()
