import unittest

from tests.support import run_examples

SUMS = r"""
>>> from ringvotes.sums import Sum
>>> one = Sum.read("m2 + m3")
>>> str(2 * one - Sum.of("m3", "m1"))
'-m1 + 2*m2 + m3'
>>> [one["m2"], one["m9"], "m3" in one, len(one), one == Sum.of("m3", "m2"), str(one - one)]
[1, 0, True, 2, True, '0']
"""

NETS = r"""
>>> from ringvotes.nets import Meter, Net, Pipe
>>> lines = "pipe src o a\npipe left a b\npipe right a c\npipe lout b o\npipe rout c o"
>>> yard = Net.read(lines + "\nmeter m1 src\nmeter m2 left\nmeter m3 right\nmeter m4 lout\nmeter m5 rout")
>>> [repr(yard), yard.places, len(yard), "m3" in yard, "src" in yard, yard + Meter("m3", "right") == yard]
['Net of 5 pipes, 5 meters', ('a', 'b', 'c', 'o'), 5, True, False, True]
>>> str(Net((Pipe("p", "a", "b"),)) + Meter("m", "p", sealed=True))
'pipe p a b\nmeter m p sealed'
>>> yard - "m6"
raises UnknownName(given='m6')
"""

WORLDS = r"""
>>> from ringvotes.worlds import is_flow, readings_of, silent_meters, value_of, wrong_meters
>>> [is_flow(yard, (7, 4, 3, 4, 3)), is_flow(yard, (7, 4, 3, 4, 4)), readings_of(yard, (7, 4, 3, 4, 3))]
[True, False, (7, 4, 3, 4, 3)]
>>> [wrong_meters(yard, ((7, 4, 3, 4, 3), (None, 4, 3, 4, 5))), silent_meters(yard, ((7, 4, 3, 4, 3), (None, 4, 3, 4, 5)))]
[('m5',), ('m1',)]
>>> [value_of(yard, Sum.read("2*m2 - m5"), (None, 4, 3, 4, 5)), value_of(yard, one, (7, None, 3, 4, 5))]
[3, None]
"""

STRENGTHS = r"""
>>> from ringvotes.strengths import can_tell, misleading, ring_through, strength
>>> [strength(yard, "src"), strength(yard - "m4", "left"), ring_through(yard - "m4", "left")]
[3, 2, (1, 1, 0, 1, 0)]
>>> [strength(yard + Meter("m1", "src", sealed=True), "src"), strength(Net.read("pipe p a b"), "p")]
[None, None]
>>> [can_tell(yard, "src", (1, 1, 0)), can_tell(yard, "src", (0, 2, 0)), can_tell(yard, "src", (1, 1, 1))]
[True, True, False]
>>> first, second = misleading(yard, "src", (1, 1, 1))
>>> [first[1] == second[1], first[0][0] == second[0][0]]
[True, False]
"""

RULES = r"""
>>> from ringvotes.rules import Rule, outcome
>>> rule = Rule(("if m1 == m2 + m3 go 2", "tell m4 + m5", "tell m1"))
>>> [len(rule), rule.meters, outcome(yard, rule, (7, 4, 3, 4, 5)), outcome(yard, rule, (7, 4, 4, 4, 3)), outcome(yard, rule, (None, 4, 3, 4, None))]
[3, ('m1', 'm2', 'm3', 'm4', 'm5'), 7, 7, None]
>>> by_vote = Rule.voting(1, Sum.of("m1"), Sum.read("m2 + m3"), Sum.read("m4 + m5"))
>>> [by_vote.rows, outcome(yard, by_vote, (9, 4, 3, 4, 3)), outcome(yard, by_vote, (9, 4, 3, 4, 4))]
[('vote 1: m1, m2 + m3, m4 + m5', 'doubt'), 7, None]
>>> Rule(("if m1 == m2 go 0", "doubt"))
raises InvalidRows(index=0)
"""

VOTES = r"""
>>> from ringvotes.votes import is_vote, tally, votes, voting_rule
>>> [is_vote(yard, "left", Sum.read("m1 - m5")), is_vote(yard, "left", Sum.read("m1 - m4")), len(votes(yard, "src"))]
[True, False, 3]
>>> [tally(yard, "src", (7, 4, 3, 4, 3)), voting_rule(yard, "src", (1, 1, 1)), outcome(yard, voting_rule(yard, "src", (1, 1, 0)), (7, 4, 3, 4, 5))]
[(7, 7, 7), None, 7]
"""

JUDGING = r"""
>>> from ringvotes.judging import alike, fooled, is_right, rows_used
>>> [is_right(yard, "src", rule, (1, 1, 0)), is_right(yard, "src", rule, (0, 2, 0)), is_right(yard, "src", Rule.read("tell m1"), (0, 0, 0))]
[True, False, True]
>>> world = fooled(yard, "src", rule, (1, 1, 1))
>>> [len(wrong_meters(yard, world)), len(silent_meters(yard, world)), outcome(yard, rule, world[1]) == world[0][0]]
[1, 1, False]
>>> [alike(yard, rule, by_vote, wrong=1), alike(yard, rule, by_vote, wrong=1, silent=1), rows_used(yard, rule), rows_used(yard, rule, wrong=1)]
[True, False, (0, 2), (0, 1, 2)]
"""

EXPLAINING = r"""
>>> from ringvotes.explaining import explanations, sure, surely_wrong
>>> seen = (7, 4, 3, 4, 5)
>>> [explanations(yard, seen, 0), explanations(yard, seen, 1), explanations(yard, seen, 2)]
[(), (('m5',),), (('m5',), ('m1', 'm3'))]
>>> [sure(yard, seen, "src", 1), sure(yard, seen, "src", 2), sure(yard, seen, "left", 2), surely_wrong(yard, seen, 1), surely_wrong(yard, seen, 2)]
[7, None, 4, ('m5',), ()]
>>> sure(yard, seen, "src")
raises NoWorld(most=0)
"""

ADDITIONS = r"""
>>> from ringvotes.additions import additions, cheapest
>>> additions(yard, (Meter("m6", "src"), Meter("m2", "left", sealed=True)), (("src", (1, 1, 1)),))
((0,),)
>>> [additions(yard, (), (("src", (1, 1, 0)),)), additions(yard, (), (("src", (1, 1, 1)),)), cheapest(Net.read(lines), (5, 2, 2, 1, 3))]
[((),), (), ('lout', 'right')]
"""

COMPARED = r"""
>>> from ringvotes.compared import parting_flow, same_readings
>>> three = Net.read("pipe p a b\npipe q b c\npipe r c a\nmeter k p\nmeter m r")
>>> turned = Net.read("pipe s b c\npipe t a b\npipe u c a\nmeter m s\nmeter k t")
>>> back = Net.read("pipe p a b\npipe q b a\npipe r a b\nmeter k p\nmeter m r")
>>> [same_readings(three, turned), parting_flow(three, turned), same_readings(three, back), parting_flow(three, back)[0]]
[True, None, False, 1]
"""

DESKS = r"""
>>> from ringvotes.desks import Desk
>>> desk = Desk(yard)
>>> desk["m1"] = 7
>>> desk.note(m2=4, m3=3, m5=3)
>>> [desk.readings, len(desk), "m4" in desk, desk.sure("lout"), desk.changes]
[(7, 4, 3, None, 3), 4, False, 4, 2]
>>> desk.note(m4="4")
raises InvalidReading(given='4')
"""

BOOKS = r"""
>>> from ringvotes.books import Book
>>> book = Book()
>>> book["yard"] = yard
>>> book["two"] = rule
>>> book.wish(("right", "yard", "src", "two", (1, 1, 0)))
>>> [book.names, book.changes, "two" in book]
[('two', 'yard'), 3, True]
>>> book.wish(("tells", "yard", "src", (1, 1, 1)))
raises Broken(index=1)
"""

CERTIFICATES = r"""
>>> from ringvotes.certificates import certify_readings, certify_rule, certify_told
>>> from ringvotes.checker import accepts
>>> claim, certificate = certify_told(yard, "src", (1, 1, 0))
>>> [claim[0], accepts(claim, certificate), accepts(claim, ()), accepts(claim, (0, 1, 1, 2))]
['tells', True, False, True]
>>> [certify_rule(yard, "src", rule, (1, 1, 0))[0][0], certify_rule(yard, "src", rule, (1, 1, 1))[0][0], certify_readings(yard, (7, 4, 3, 4, 3))]
['right', 'fools', None]
>>> accepts(("clash", str(yard), (7, 4, 3, 4, 5)), ("m3 - m5", (0, 0, 1, 0)))
True
"""


class TestExamples(unittest.TestCase):
    def test_examples_as_they_stand_in_the_document(self):
        names = {}
        for text in (
            SUMS, NETS, WORLDS, STRENGTHS, RULES, VOTES, JUDGING, EXPLAINING, ADDITIONS, COMPARED, DESKS, BOOKS, CERTIFICATES,
        ):
            run_examples(self, text, names)

    def test_the_runner_sees_what_is_different(self):
        for text in (">>> 1 + 1\n3", ">>> int('1')\nraises ValueError()", ">>> int('x')\nraises KeyError()"):
            with self.assertRaises(AssertionError):
                run_examples(self, text, {})


if __name__ == "__main__":
    unittest.main()
