import importlib
import inspect
import re
import unittest
from pathlib import Path

import ringvotes
from ringvotes import limits

# Each class with its methods (its properties behind "="), and each function, as the document lists them.
LISTED = {
    "sums": {"Sum": "(terms=()) read(text) of(*names) = terms"},
    "nets": {
        "Pipe": "(name, start, end) = name start end",
        "Meter": "(name, at, *, sealed=False) = name at sealed",
        "Net": "(pipes, meters=()) read(text) pipe(name) meter(name) = pipes meters places",
    },
    "worlds": {
        "is_flow": "(net, value)", "readings_of": "(net, flow)", "wrong_meters": "(net, world)",
        "silent_meters": "(net, world)", "value_of": "(net, total, readings)",
    },
    "strengths": {
        "strength": "(net, pipe)", "ring_through": "(net, pipe)", "can_tell": "(net, pipe, faults)",
        "misleading": "(net, pipe, faults)",
    },
    "rules": {
        "Rule": "(rows) read(text) voting(against, *totals) = rows meters", "outcome": "(net, rule, readings)",
    },
    "votes": {
        "is_vote": "(net, pipe, total)", "votes": "(net, pipe)", "tally": "(net, pipe, readings)",
        "voting_rule": "(net, pipe, faults)",
    },
    "judging": {
        "is_right": "(net, pipe, rule, faults)", "fooled": "(net, pipe, rule, faults)",
        "alike": "(net, one, two, *, wrong=0, silent=0)", "parting": "(net, one, two, *, wrong=0, silent=0)",
        "rows_used": "(net, rule, *, wrong=0, silent=0)",
    },
    "explaining": {
        "explanations": "(net, readings, most)", "sure": "(net, readings, pipe, most=0)",
        "surely_wrong": "(net, readings, most=0)",
    },
    "additions": {"additions": "(net, offers, wishes)", "cheapest": "(net, prices)"},
    "compared": {"same_readings": "(net, other)", "parting_flow": "(net, other)"},
    "desks": {
        "Desk": "(net) note(**readings) undo() outcome(rule) explanations(most) sure(pipe, most=0) trial() tried(action) "
                "= net readings changes",
    },
    "books": {
        "Book": "() remove(name) wish(wish) lift(index) undo() trial() tried(action) = names wishes changes",
    },
    "checker": {"accepts": "(claim, certificate)"},
    "certificates": {
        "certify_told": "(net, pipe, faults)", "certify_rule": "(net, pipe, rule, faults)",
        "certify_readings": "(net, readings)", "certify_nets": "(net, other)", "certify_cheapest": "(net, prices)",
    },
}

OPERATORS = {
    "Sum": "len bool getitem contains str eq add sub neg mul rmul", "Net": "len contains str repr eq add sub",
    "Pipe": "eq", "Meter": "eq", "Rule": "len str eq", "Desk": "setitem getitem contains len bool eq",
    "Book": "setitem getitem contains len bool eq",
}


def parts_of(told):
    """The parameters of a class, its methods as pairs (name, parameters), and its properties."""
    before, _, properties = told.partition(" = ")
    found = [(name, f"({inner})") for name, inner in re.findall(r"(\w*)\(((?:[^()]|\(\))*)\)", before)]
    return found[0][1], found[1:], properties.split()


class TestInterface(unittest.TestCase):
    def listed(self):
        for module, names in LISTED.items():
            for name, told in names.items():
                yield module, name, vars(importlib.import_module(f"ringvotes.{module}"))[name], told

    def test_each_name_is_defined_in_its_file(self):
        for module, name, value, _ in self.listed():
            self.assertEqual((value.__module__, value.__name__), (f"ringvotes.{module}", name))

    def test_functions_have_their_parameters(self):
        for _, name, value, told in self.listed():
            if inspect.isfunction(value):
                self.assertEqual(str(inspect.signature(value)), told, name)

    def test_classes_have_their_methods_and_properties(self):
        for _, name, value, told in self.listed():
            if inspect.isclass(value):
                made, methods, properties = parts_of(told)
                self.assertEqual(str(inspect.signature(value)), made, name)
                for method, parameters in methods:
                    self.assertIn(method, vars(value))
                    bound = inspect.signature(getattr(value, method))
                    if inspect.isfunction(vars(value)[method]):
                        bound = bound.replace(parameters=list(bound.parameters.values())[1:])
                    self.assertEqual(str(bound), parameters, (name, method))
                for one in properties:
                    self.assertIsInstance(vars(value)[one], property, (name, one))
                for one in OPERATORS[name].split():
                    self.assertIn(f"__{one}__", vars(value), name)

    def test_limits(self):
        names = "MOST_PIPES MOST_METERS MOST_ROWS MOST_SUMS MOST_FAULTS MOST_OFFERS MOST_PAIRS".split()
        self.assertEqual([vars(limits)[name] for name in names], [12, 12, 8, 10, 3, 6, 1000])

    def test_the_package_holds_its_files_only(self):
        folder = Path(ringvotes.__file__).parent
        others = [path.name for path in folder.iterdir() if path.suffix != ".py" and path.name != "__pycache__"]
        self.assertEqual(others, [])
        for module in LISTED:
            self.assertTrue((folder / f"{module}.py").is_file())


if __name__ == "__main__":
    unittest.main()
