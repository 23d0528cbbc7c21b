import unittest
from itertools import product

from ringvotes.errors import InvalidText
from ringvotes.sums import Sum
from tests.oracles import expected_terms
from tests.support import check_given, edits, odd_tuples, odd_values, raised

FORTY = 10 ** 40 - 1
TEXTS = {
    "0": (),
    "a": (("a", 1),),
    "-a": (("a", -1),),
    "3*a": (("a", 3),),
    "-3*a": (("a", -3),),
    "a + b": (("a", 1), ("b", 1)),
    "a - b": (("a", 1), ("b", -1)),
    "a + 3*b": (("a", 1), ("b", 3)),
    "a - 3*b": (("a", 1), ("b", -3)),
    "-m1 + 2*m2 + m3": (("m1", -1), ("m2", 2), ("m3", 1)),
    "-10*a1 - 11*a10 + 2*a2": (("a1", -10), ("a10", -11), ("a2", 2)),
    "abcdefgh - 10*z9999999": (("abcdefgh", 1), ("z9999999", -10)),
    f"{FORTY}*a - {FORTY}*b": (("a", FORTY), ("b", -FORTY)),
}


class TestSumTexts(unittest.TestCase):
    def check(self, text):
        terms = expected_terms(text)
        if terms is None:
            check_given(self, InvalidText, text, Sum.read, text)
        else:
            total = Sum.read(text)
            self.assertEqual((total.terms, str(total)), (terms, text))
        return terms is not None

    def test_texts_are_written(self):
        for text, terms in TEXTS.items():
            self.assertEqual(str(Sum(terms)), text)
            self.assertEqual(str(Sum(terms[::-1])), text)

    def test_texts_are_read(self):
        for text, terms in TEXTS.items():
            self.assertEqual(Sum.read(text).terms, terms)
            self.assertEqual(Sum.read(text=text).terms, terms)
            self.assertIs(Sum.read(text).__class__, Sum)

    def test_all_small_sums_are_written_and_read(self):
        numbers = (-11, -10, -2, -1, 0, 1, 2, 9, 10, 100)
        for triple in product(numbers, repeat=3):
            total = Sum(tuple(zip(("a", "b1", "c"), triple)))
            self.assertEqual(expected_terms(str(total)), total.terms)
            self.assertEqual(Sum.read(str(total)), total)

    def test_signs_and_numbers_that_do_not_stand_so(self):
        for text in (
            "+a", "+ a", "- a", "--a", "-+a", "+-a", "a +b", "a+ b", "a+b", "a-b", "a + -b", "a - -b", "a + +b",
            "a b", "a  b", "a +", "a -", "a + ", "a - ", "+", "-", " + a", "a + + b", "a - - b", "a +- b", "a * b",
            "01*a", "00*a", "03*a", "-03*a", "a + 03*b", "+3*a", "a + +3*b", "a + -3*b", "-0", "+0", "00", "0 + a",
            "a + 0", "-0*a", "0*a", "a + 0*b", "a - 0*b", "1*a", "-1*a", "a + 1*b", "a - 1*b", "3", "-3", "3 + a",
            "a*3", "3**a", "*a", "-*a", "a + *b", "3*", "-3*", "3 *a", "3* a", "3 * a", "3a", "- 3*a", "2*3*a",
            "3*-a", "3_0*a", "1_0*a", "0x3*a", "a + b*c", "3.*a", "(a)", "a, b",
        ):
            self.assertFalse(self.check(text), text)

    def test_terms_out_of_order_or_twice(self):
        for text in ("b + a", "a + a", "a - a", "2*a + a", "a + b + a", "a + c + b", "a2 + a10", "-b - a", "a1 + a",
                     "a + b + b", "aa + a1"):
            self.assertFalse(self.check(text), text)

    def test_names_that_are_none(self):
        for text in ("A", "a + B", "aB", "1a", "a_b", "abcdefghi", "3*abcdefghi", "a + abcdefghi", "a.b", "a-", "2*A"):
            self.assertFalse(self.check(text), text)

    def test_spaces_and_newlines(self):
        for text in ("", " ", "\n", " a", "a ", "a\n", "\na", "a  + b", "a +  b", "a + b ", " a + b", "a + b\n",
                     "a\n+ b", "a +\nb", " 0", "0 ", "0\n", "\n0", "a\t+ b", "a\n", "3*a\n", "3\n*a", "-\na"):
            self.assertFalse(self.check(text), text)

    def test_digits_of_other_scripts(self):
        for text in ("\u0663*a", "\u00b2*a", "a\u0663", "3\u0663*a"):
            check_given(self, InvalidText, text, Sum.read, text)

    def test_all_short_strings(self):
        found = [
            text
            for length in range(6)
            for text in map("".join, product("ab01-+* ", repeat=length))
            if self.check(text)
        ]
        short = ["a", "b", "0", "aa", "ab", "a0", "a1", "ba", "bb", "b0", "b1", "-a", "-b"]
        self.assertEqual([text for text in found if len(text) < 3], short)
        self.assertIn("a + b", found)
        self.assertIn("-10*a", found)
        self.assertNotIn("b + a", found)

    def test_all_short_rows_of_pieces(self):
        pieces = ("a", "b", "2*", "1*", "0*", "10*", "-", " + ", " - ", "0", " ", "c9")
        found = [text for row in product(pieces, repeat=4) for text in ["".join(row)] if self.check(text)]
        self.assertIn("2*a - b", found)
        self.assertIn("-a + c9", found)

    def test_one_edit_from_a_text(self):
        for text in TEXTS:
            for other in edits(text, "ab019+-* \n_A"):
                self.check(other)

    def test_terms_put_in_left_out_and_exchanged(self):
        words = ("a", "-a", "-3*a", "+", "-", "b", "3*b", "c", "0", "")
        for row in product(words, repeat=3):
            self.check(" ".join(row))
        for row in product(("+", "-", ""), ("b", "c", "2*c"), ("+", "-"), ("c", "d", "")):
            self.check("-a " + " ".join(row))

    def test_values_that_are_no_strings(self):
        for value in odd_values() + odd_tuples() + [(), b"a", ["a"], Sum.of("a"), Sum, ("a", 1), (("a", 1),)]:
            if value.__class__ is not str:
                check_given(self, InvalidText, value, Sum.read, value)
                check_given(self, InvalidText, value, Sum.read, text=value)

    def test_the_error_comes_alone(self):
        self.assertIsNone(raised(self, InvalidText, Sum.read, "b + a").__cause__)

    def test_long_strings(self):
        for text in ("a" * 4000, "9" * 4000, "9" * 3998 + "*A", "a + " * 1000, "-" * 4000, " " * 4000, "0" * 4000,
                     "*" * 4000, "0" * 3998 + "*a"):
            self.assertFalse(self.check(text))


if __name__ == "__main__":
    unittest.main()
