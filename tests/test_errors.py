import unittest

from ringvotes import errors
from tests.support import odd_tuples, odd_values

GIVEN = (
    "InvalidName InvalidEnd InvalidFlag InvalidText InvalidNumber InvalidFaults InvalidFlow InvalidWorld "
    "InvalidReading InvalidWish InvalidIndex NotAMeter NotANet NotASum NotARule NotAnEntry"
).split(" ")
INDEX = (
    "InvalidPipes InvalidMeters InvalidTerms InvalidRows InvalidReadings InvalidOffers InvalidWishes InvalidPrices"
).split(" ")

# The attribute of each class, under the base class under which it is listed.
LISTED = {
    "BadValue": {**{name: "given" for name in GIVEN}, **{name: "index" for name in INDEX}},
    "BadName": {"UnknownName": "given", "OtherMeters": "given", "InUse": "index"},
    "NoAnswer": {"TooMany": "limit", "NoWorld": "most", "NothingToUndo": None, "Broken": "index"},
}
ROOTS = {"BadValue": ValueError, "BadName": LookupError, "NoAnswer": ArithmeticError}


def listed():
    """The triples (base, class, attribute)."""
    return [
        (vars(errors)[base], vars(errors)[name], attribute)
        for base, rows in LISTED.items()
        for name, attribute in rows.items()
    ]


class TestErrors(unittest.TestCase):
    def test_just_the_listed_classes(self):
        names = [name for name, value in vars(errors).items() if isinstance(value, type)]
        expected = list(ROOTS) + [name for rows in LISTED.values() for name in rows]
        self.assertEqual(sorted(names), sorted(expected))
        self.assertEqual(len(names), 34)

    def test_base_classes_stand_under_errors_of_python(self):
        for name, root in ROOTS.items():
            self.assertEqual(vars(errors)[name].__bases__, (root,))

    def test_each_class_stands_under_its_base_class_only(self):
        own = [value for value in vars(errors).values() if isinstance(value, type)]
        for base, error, _ in listed():
            above = [value for value in own if issubclass(error, value) and value is not error]
            self.assertEqual(above, [base], error)
            self.assertEqual([root for root in ROOTS.values() if issubclass(error, root)], [ROOTS[base.__name__]])

    def test_classes_are_defined_here(self):
        for base, error, _ in listed():
            self.assertEqual((base.__module__, error.__module__), ("ringvotes.errors", "ringvotes.errors"))

    def test_attribute_is_kept_by_position_and_by_name(self):
        for value in odd_values() + odd_tuples():
            for _, error, attribute in listed():
                if attribute is not None:
                    self.assertIs(vars(error(value))[attribute], value)
                    self.assertIs(vars(error(**{attribute: value}))[attribute], value)

    def test_attribute_is_the_only_one(self):
        for _, error, attribute in listed():
            if attribute is not None:
                self.assertEqual(list(vars(error(1))), [attribute])

    def test_attribute_has_to_be_passed(self):
        for _, error, attribute in listed():
            if attribute is not None:
                self.assertRaises(TypeError, error)
                self.assertRaises(TypeError, error, 1, 2)

    def test_nothing_to_undo_has_none(self):
        self.assertEqual(vars(errors.NothingToUndo()), {})

    def test_they_can_be_raised_and_caught_by_their_base_classes(self):
        for base, error, attribute in listed():
            for kind in (error, base, ROOTS[base.__name__]):
                with self.assertRaises(kind):
                    raise error() if attribute is None else error("m1")

    def test_errors_are_equal_to_themselves_only_and_true(self):
        for _, error, attribute in listed():
            one, two = [error() if attribute is None else error(None) for _ in range(2)]
            self.assertTrue(one == one)
            self.assertTrue(one != two)
            self.assertIs(bool(one), True)


if __name__ == "__main__":
    unittest.main()
