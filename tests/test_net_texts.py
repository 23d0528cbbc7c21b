import re
import unittest
from itertools import permutations, product

from ringvotes.errors import InvalidText
from ringvotes.nets import Meter, Net, Pipe
from tests.support import check_given, edits, odd_tuples, odd_values, raised

NAME = "([a-z][a-z0-9]{0,7})"
PIPE = re.compile(f"pipe {NAME} {NAME} {NAME}")
METER = re.compile(f"meter {NAME} {NAME}( sealed)?")

YARD = (
    "pipe src o a\npipe left a b\npipe right a c\npipe lout b o\npipe rout c o\n"
    "meter m1 src\nmeter m2 left sealed"
)
TEXTS = {
    "pipe p a b": Net((Pipe("p", "a", "b"),)),
    "pipe p a b\nmeter m p": Net((Pipe("p", "a", "b"),), (Meter("m", "p"),)),
    "pipe p a b\nmeter m p sealed": Net((Pipe("p", "a", "b"),), (Meter("m", "p", sealed=True),)),
    "pipe pipe meter pipe\nmeter pipe pipe sealed\nmeter sealed pipe": Net(
        (Pipe("pipe", "meter", "pipe"),), (Meter("pipe", "pipe", sealed=True), Meter("sealed", "pipe"))
    ),
    "pipe sealed sealed b\nmeter sealed sealed\nmeter meter sealed sealed": Net(
        (Pipe("sealed", "sealed", "b"),), (Meter("sealed", "sealed"), Meter("meter", "sealed", sealed=True))
    ),
    "pipe q b a\npipe p a b\nmeter n p\nmeter m q sealed\nmeter q q": Net(
        (Pipe("q", "b", "a"), Pipe("p", "a", "b")),
        (Meter("n", "p"), Meter("m", "q", sealed=True), Meter("q", "q")),
    ),
    YARD: Net(
        (Pipe("src", "o", "a"), Pipe("left", "a", "b"), Pipe("right", "a", "c"), Pipe("lout", "b", "o"),
         Pipe("rout", "c", "o")),
        (Meter("m1", "src"), Meter("m2", "left", sealed=True)),
    ),
}


def is_text(text):
    """Whether a string is the text of a net; found by patterns."""
    lines = text.split("\n")
    found = [PIPE.fullmatch(line) for line in lines]
    pipes = [row for row in found if row]
    meters = [METER.fullmatch(line) for line in lines[len(pipes):]]
    if not all(found[:len(pipes)]) or not all(meters):
        return False
    names, others = [row[1] for row in pipes], [row[1] for row in meters]
    return (
        1 <= len(set(names)) == len(names) <= 12
        and len(set(others)) == len(others) <= 12
        and all(row[2] != row[3] for row in pipes)
        and all(row[2] in names for row in meters)
    )


class TestNetTexts(unittest.TestCase):
    def check(self, text):
        if is_text(text):
            net = Net.read(text)
            self.assertEqual(str(net), text)
            self.assertIs(net.__class__, Net)
            return True
        check_given(self, InvalidText, text, Net.read, text)
        return False

    def test_texts_are_written_and_read(self):
        for text, net in TEXTS.items():
            self.assertTrue(is_text(text))
            self.assertEqual(str(net), text)
            self.assertEqual((Net.read(text).pipes, Net.read(text).meters), (net.pipes, net.meters))
            self.assertEqual(Net.read(text=text), net)

    def test_nets_of_all_sizes(self):
        for many, more in product(range(16), range(16)):
            lines = [f"pipe p{index} a b" for index in range(many)]
            lines.extend([f"meter m{index} p0{' sealed' * (index % 2)}" for index in range(more)])
            self.assertEqual(self.check("\n".join(lines)), 1 <= many <= 12 and more <= 12)

    def test_lines_exchanged_doubled_and_left_out(self):
        for text in TEXTS:
            lines = text.split("\n")
            for at in range(len(lines)):
                self.check("\n".join(lines[:at] + lines[at + 1:]))
                for to in range(len(lines) + 1):
                    self.assertFalse(self.check("\n".join(lines[:to] + [lines[at]] + lines[to:])))
                    rest = lines[:at] + lines[at + 1:]
                    self.check("\n".join(rest[:to] + [lines[at]] + rest[to:]))

    def test_all_rows_of_some_lines(self):
        lines = ("pipe p a b", "pipe q b a", "meter m p", "meter n q sealed", "meter p p", "pipe p b c")
        read = [row for many in range(5) for row in permutations(lines, many) if self.check("\n".join(row))]
        self.assertIn(("pipe q b a", "pipe p a b", "meter p p", "meter m p"), read)
        self.assertNotIn(("pipe p a b", "meter m p", "pipe q b a"), read)

    def test_meters_before_pipes(self):
        for text in ("meter m p\npipe p a b", "pipe p a b\nmeter m p\npipe q b a", "meter m p", "meter m p sealed"):
            self.assertFalse(self.check(text))

    def test_words_exchanged_doubled_and_left_out(self):
        for text in TEXTS:
            words = text.replace("\n", " \n ").split(" ")
            for at in range(len(words)):
                without = words[:at] + words[at + 1:]
                for row in [without] + [without[:to] + [words[at]] + without[to:] for to in range(len(words))]:
                    self.check(" ".join(row).replace(" \n ", "\n"))
                for word in ("pipe", "meter", "sealed", "p", "a", "b", "m", "", "P", "abcdefghi"):
                    self.check(" ".join(words[:at] + [word] + words[at + 1:]).replace(" \n ", "\n"))
                    self.check(" ".join(words[:at] + [word] + words[at:]).replace(" \n ", "\n"))

    def test_lines_that_do_not_stand_so(self):
        for line in (
            "pipe", "pipe q", "pipe q a", "pipe q a b c", "pipe q a a", "pipe q a b sealed", "Pipe q a b", "q a b",
            "pipe  q a b", "pipe q a  b", " pipe q a b", "pipe q a b ", "pipe Q a b", "pipe q a-b", "pipe q a,b",
            "pipe q A b", "pipe q a B", "pipe 1q a b", "pipe q 1 2", "pipe abcdefghi a b", "pipe q a\tb",
            "meter", "meter m", "meter m p p", "meter m p unsealed", "meter m p Sealed", "meter m p sealed sealed",
            "meter m p seal", "meter m p ", "meter m p sealed ", " meter m p", "meter  m p", "meter m  p",
            "meter m p  sealed", "Meter m p", "meter M p", "meter m P", "meter m x", "meter m a", "m p",
            "meter m p True", "meter m p False", "pump m p", "pipes q a b", "", " ", "sealed", "# pipe", "net",
        ):
            for text in (f"pipe p a b\nmeter n p\n{line}", f"pipe p a b\n{line}\nmeter n p", f"{line}\npipe p a b",
                         f"pipe p a b\n{line}", line):
                self.assertFalse(self.check(text), text)

    def test_something_in_front_or_behind(self):
        for text in TEXTS:
            for more in ("\n", " ", "\n\n", "x", " x", "\nx", ";", "\t", "\r", "0", "-"):
                self.check(text + more)
                self.assertFalse(self.check(more + text))
            for more in ("\n", " ", "\n\n", "\nx", ";", "\t", "\r", "-", "\n\npipe z a b", "\nmeter m9 z"):
                self.assertFalse(self.check(text + more))
            self.assertFalse(self.check(text.replace(" ", "  ")))
            self.assertFalse(self.check(text.replace("\n", "\n\n") + "\n"))
            self.assertFalse(self.check(text.upper()))

    def test_other_ends_of_lines(self):
        for end in ("\r\n", "\r", "\n\n", "\n ", " \n", "", " ", ";", "\x0b", "\x0c", "\x1c", "\u2028"):
            text = f"pipe p a b{end}meter m p"
            check_given(self, InvalidText, text, Net.read, text)

    def test_one_edit_from_a_text(self):
        for text in TEXTS:
            for other in edits(text, "pmab0 \n-A"):
                self.check(other)

    def test_all_short_rows_of_words(self):
        words = ("pipe", "meter", "p", "a", "sealed", "", "\n")
        for row in product(words, repeat=4):
            self.check(" ".join(row).replace(" \n ", "\n"))
            self.check("pipe p a b\n" + " ".join(row).replace(" \n ", "\n"))

    def test_values_that_are_no_strings(self):
        net = TEXTS[YARD]
        for value in odd_values() + odd_tuples() + [(), net, net.pipes, b"pipe p a b", ["pipe p a b"], Net]:
            if value.__class__ is not str:
                check_given(self, InvalidText, value, Net.read, value)
                check_given(self, InvalidText, value, Net.read, text=value)

    def test_the_error_of_a_part_is_not_told(self):
        for text in ("pipe P a b", "pipe p a a", "pipe p a b\npipe p a b", "pipe p a b\nmeter m q", "meter m p"):
            error = raised(self, InvalidText, Net.read, text)
            self.assertEqual((error.given, error.__cause__), (text, None))

    def test_long_strings(self):
        for text in ("pipe p a b\n" * 363, "a" * 4000, "\n" * 4000, " " * 4000, "pipe " * 800):
            self.assertFalse(self.check(text))


if __name__ == "__main__":
    unittest.main()
