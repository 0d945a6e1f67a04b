"""The form of the files of the package: what shared/LANGUAGE.md asks and a test can see."""

import ast
import inspect
import pathlib
import unittest

from pooledeyes import circles, circletexts, puts, words
from pooledeyes.circles import Circle

FOLDER = pathlib.Path(words.__file__).parent
# In the order of the document, in which each module needs only those above it.
MODULES = ["errors", "words", "circles", "circletexts", "puts"]
PARAMETERS = {
    words: {"is_name": "(value)", "is_number": "(value, least, most)"},
    circles: {"eye": "(name)", "pool": "(*circles)", "common": "(*circles)"},
    circletexts: {"read_circle": "(text)", "is_circle_text": "(value)"},
    puts: {"put_in": "(circle, images)", "mirrored": "(circle)", "exchanged": "(circle, first, second)",
           "circles_in": "(circle)"},
}


def source_files():
    """The files of the package."""
    return sorted(path for path in FOLDER.iterdir() if path.name != "__pycache__")


class FormTest(unittest.TestCase):
    def test_the_folder_has_the_modules_alone(self):
        self.assertEqual([path.name for path in source_files()],
                         sorted(["__init__.py"] + [name + ".py" for name in MODULES]))

    def test_lines_and_characters(self):
        for path in source_files():
            text = path.read_bytes().decode("ascii")
            self.assertLess(len(text.splitlines()), 400, path)
            self.assertLessEqual(max(len(line) for line in text.splitlines()), 120, path)
            self.assertEqual([one for one in text if one < " " and one != "\n"], [], path)

    def test_strings_have_no_percent_sign(self):
        for path in source_files():
            for node in ast.walk(ast.parse(path.read_text())):
                if isinstance(node, ast.Constant) and isinstance(node.value, str):
                    self.assertNotIn("%", node.value, path)

    def test_functions_are_short(self):
        for path in source_files():
            for node in ast.walk(ast.parse(path.read_text())):
                if isinstance(node, ast.FunctionDef):
                    self.assertLessEqual(node.end_lineno - node.lineno + 1, 40, (path, node.name))

    def test_modules_need_only_those_above(self):
        for at, name in enumerate(MODULES):
            for node in ast.walk(ast.parse((FOLDER / (name + ".py")).read_text())):
                self.assertNotIsInstance(node, ast.Import, name)
                if isinstance(node, ast.ImportFrom):
                    self.assertIn(node.module, ["pooledeyes." + above for above in MODULES[:at]], name)

    def test_functions_have_their_parameters_in_their_file(self):
        for module, functions in PARAMETERS.items():
            for name, parameters in functions.items():
                function = getattr(module, name)
                self.assertEqual(str(inspect.signature(function)), parameters, name)
                self.assertEqual(function.__module__, module.__name__)

    def test_circle_defines_its_methods(self):
        self.assertEqual(Circle.__module__, "pooledeyes.circles")
        for name in ["parts", "eyes", "__str__", "__repr__", "__and__", "__or__", "__eq__"]:
            self.assertIn(name, vars(Circle))


if __name__ == "__main__":
    unittest.main()
