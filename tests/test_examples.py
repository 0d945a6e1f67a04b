"""The examples of the document, which stand in examples.txt."""

import pathlib
import unittest

EXAMPLES = pathlib.Path(__file__).parent / "examples.txt"


def shown(lines):
    """What the last of some lines gives: its value, or the error that it raises with what it tells."""
    names = {}
    for line in lines[:-1]:
        exec(line, names)
    try:
        return repr(eval(lines[-1], names))
    except Exception as error:
        told = ", ".join(f"{name}={value!r}" for name, value in vars(error).items())
        return f"raises {error.__class__.__name__}({told})"


class ExamplesTest(unittest.TestCase):
    def test_examples(self):
        blocks = [block.strip().splitlines() for block in EXAMPLES.read_text().split("```") if block.strip()]
        self.assertGreater(len(blocks), 12)
        for *lines, wanted in blocks:
            self.assertEqual(shown([line.removeprefix(">>> ") for line in lines]), wanted, lines)


if __name__ == "__main__":
    unittest.main()
