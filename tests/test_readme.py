"""The examples of README.md."""

import doctest
import pathlib
import unittest

README = pathlib.Path(__file__).parent.parent / "README.md"


class ReadmeTest(unittest.TestCase):
    def test_examples(self):
        parser = doctest.DocTestParser()
        examples = "\n".join(line for line in README.read_text().splitlines() if not line.startswith("```"))
        test = parser.get_doctest(examples, {}, "README", "README.md", 0)
        self.assertGreater(len(test.examples), 8)
        result = doctest.DocTestRunner(verbose=False).run(test)
        self.assertEqual(result.failed, 0)


if __name__ == "__main__":
    unittest.main()
