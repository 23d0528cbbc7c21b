import doctest
import re
import unittest
from pathlib import Path

README = Path(__file__).parent.parent / "README.md"


class TestReadme(unittest.TestCase):
    def test_examples_hold(self):
        blocks = re.findall("```\n(>>>.*?)```", README.read_text(), re.S)
        self.assertGreater(len(blocks), 3)
        examples = doctest.DocTestParser().get_doctest("\n".join(blocks), {}, "README", str(README), 0)
        told = []
        self.assertEqual(doctest.DocTestRunner(verbose=False).run(examples, out=told.append).failed, 0, "".join(told))


if __name__ == "__main__":
    unittest.main()
