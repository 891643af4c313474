"""The examples of README.md do what they show."""

import doctest
import pathlib
import re
import unittest

README = pathlib.Path(__file__).resolve().parent.parent / "README.md"


class ReadmeTest(unittest.TestCase):
    def test_examples(self):
        blocks = re.findall("```\n(>>>.*?)```", README.read_text(encoding="utf-8"), re.DOTALL)
        examples = doctest.DocTestParser().get_doctest("\n".join(blocks), {}, "README.md", "README.md", 0)
        results = doctest.DocTestRunner(verbose=False, optionflags=doctest.ELLIPSIS).run(examples)
        self.assertEqual(results.failed, 0)
        self.assertGreater(results.attempted, 15)


if __name__ == "__main__":
    unittest.main()
