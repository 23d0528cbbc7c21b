import unittest

from tests.support import run_examples

SUMS = r"""
>>> from ringvotes.sums import Sum
>>> one = Sum.read("m2 + m3")
>>> str(2 * one - Sum.of("m3", "m1"))
'-m1 + 2*m2 + m3'
>>> [one["m2"], one["m9"], "m3" in one, len(one), one == Sum.of("m3", "m2"), str(one - one)]
[1, 0, True, 2, True, '0']
"""

NETS = r"""
>>> from ringvotes.nets import Meter, Net, Pipe
>>> lines = "pipe src o a\npipe left a b\npipe right a c\npipe lout b o\npipe rout c o"
>>> yard = Net.read(lines + "\nmeter m1 src\nmeter m2 left\nmeter m3 right\nmeter m4 lout\nmeter m5 rout")
>>> [repr(yard), yard.places, len(yard), "m3" in yard, "src" in yard, yard + Meter("m3", "right") == yard]
['Net of 5 pipes, 5 meters', ('a', 'b', 'c', 'o'), 5, True, False, True]
>>> str(Net((Pipe("p", "a", "b"),)) + Meter("m", "p", sealed=True))
'pipe p a b\nmeter m p sealed'
>>> yard - "m6"
raises UnknownName(given='m6')
"""


class TestExamples(unittest.TestCase):
    def test_examples_as_they_stand_in_the_document(self):
        names = {}
        run_examples(self, SUMS, names)
        run_examples(self, NETS, names)

    def test_the_runner_sees_what_is_different(self):
        for text in (">>> 1 + 1\n3", ">>> int('1')\nraises ValueError()", ">>> int('x')\nraises KeyError()"):
            with self.assertRaises(AssertionError):
                run_examples(self, text, {})


if __name__ == "__main__":
    unittest.main()
