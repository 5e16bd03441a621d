"""The examples in README.md do what they show."""

import doctest
import pathlib
import re
import unittest

README = pathlib.Path(__file__).resolve().parent.parent / "README.md"


class Examples(unittest.TestCase):

    def test_examples(self):
        blocks = re.findall(r"```python\n(.*?)```", README.read_text(encoding="utf-8"), re.DOTALL)
        test = doctest.DocTestParser().get_doctest("\n".join(blocks), {}, "README.md", str(README), 0)
        self.assertGreater(len(test.examples), 5)
        said = []
        results = doctest.DocTestRunner().run(test, out=said.append)
        self.assertEqual(results.failed, 0, "".join(said))
