import unittest

from ringvotes import limits


class TestLimits(unittest.TestCase):
    def test_the_seven_constants(self):
        found = {name: value for name, value in vars(limits).items() if not name.startswith("_")}
        self.assertEqual(found, {
            "MOST_PIPES": 12,
            "MOST_METERS": 12,
            "MOST_ROWS": 8,
            "MOST_SUMS": 10,
            "MOST_FAULTS": 3,
            "MOST_OFFERS": 6,
            "MOST_PAIRS": 1000,
        })

    def test_they_are_integers(self):
        for name in ("PIPES", "METERS", "ROWS", "SUMS", "FAULTS", "OFFERS", "PAIRS"):
            self.assertIs(vars(limits)["MOST_" + name].__class__, int)


if __name__ == "__main__":
    unittest.main()
