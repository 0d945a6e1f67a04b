"""The form of the files of the package: what shared/LANGUAGE.md asks and a test can see."""

import ast
import builtins
import inspect
import pathlib
import unittest

from pooledeyes import (betweens, books, carrying, chains, circles, circletexts, closings, descents, events, frames,
                        guards, keys, lots, musts, office, outs, papers, partings, plans, puts, reasons, refuters,
                        rounds, showing, sights, sketches, sketchpapers, stretches, tables, words, worlds)
from pooledeyes.books import Book
from pooledeyes.circles import Circle
from pooledeyes.frames import Frame
from pooledeyes.guards import Guard
from pooledeyes.office import Office
from pooledeyes.plans import Plan
from pooledeyes.sights import Sights
from pooledeyes.sketches import Sketch
from pooledeyes.stretches import Stretch
from pooledeyes.worlds import World

FOLDER = pathlib.Path(words.__file__).parent
# In the order of the document, in which each module needs only those above it; proofs is no module of the document.
MODULES = ["errors", "words", "circles", "circletexts", "puts", "partings", "worlds", "showing", "chains", "events",
           "frames", "stretches", "proofs", "descents", "keys", "betweens", "outs", "sights", "books", "closings",
           "musts", "tables", "refuters", "lots", "guards", "papers", "plans", "rounds", "carrying", "sketches",
           "reasons", "sketchpapers", "office"]
PARAMETERS = {
    words: {"is_name": "(value)", "is_number": "(value, least, most)"},
    circles: {"eye": "(name)", "pool": "(*circles)", "common": "(*circles)"},
    circletexts: {"read_circle": "(text)", "is_circle_text": "(value)"},
    puts: {"put_in": "(circle, images)", "mirrored": "(circle)", "exchanged": "(circle, first, second)",
           "circles_in": "(circle)"},
    partings: {"is_parting": "(value)", "apart": "(many)", "together": "(many)", "parting_of": "(many, pairs)",
               "lots_of": "(parting)", "meet_of": "(first, second)", "join_of": "(first, second)",
               "is_within": "(first, second)", "all_partings": "(many)"},
    showing: {"world_table": "(world)"},
    chains: {"links_of": "(circle)", "chain_between": "(world, circle, one, other)",
             "is_chain": "(world, circle, one, other, value)", "lot_around": "(world, circle, case)",
             "wall_stands": "(world, circle, value)", "wall_between": "(world, circle, one, other)",
             "depth_of": "(world, circle)"},
    events: {"is_known": "(world, circle, event, case)", "known": "(world, circle, event)",
             "around": "(world, circle, event)", "is_settled": "(world, circle, event)",
             "known_by_each": "(world, circle, event, rounds)"},
    frames: {"laid_ties": "(circle, first, second, fresh, *, rounds=2, less=0)",
             "count_ties": "(circle, *, rounds=2, less=0)", "count_cases": "(circle, *, rounds=2, less=0)"},
    descents: {"tells": "(t, s)", "always_alike": "(t, s)", "descent_of": "(t, s)", "is_descent": "(t, s, value)"},
    keys: {"key_of": "(circle)", "is_key": "(circle)", "essential_eyes": "(circle)"},
    betweens: {"circle_between": "(t, s)"},
    outs: {"out": "(circle, *eyes, above=True)"},
    closings: {"closing_log": "(world, book)", "closed_world": "(world, book)", "walked": "(world, book, log)",
               "is_log": "(world, book, value)"},
    musts: {"closed_frame": "(book, t)", "must_tell": "(book, t, s)", "told_among": "(book, t, circles)",
            "follows": "(book, circle, name)", "follows_from_others": "(book, at)", "lean": "(book)",
            "books_alike": "(first, second)", "unlike_grant": "(first, second)", "grants_for": "(circle, shown)"},
    tables: {"table_tells": "(book, t, s)", "derivation_of": "(book, t, s)", "is_derivation": "(book, t, s, value)"},
    refuters: {"all_worlds": "(many, eyes)", "least_refuter": "(t, s, *, under=None, most=3)"},
    lots: {"least_lots": "(book, t, s)", "brings": "(book, lot, t, s)"},
    guards: {},
    papers: {"paper_for": "(book, t, s)", "is_paper": "(book, t, s, value)", "guard_paper": "(guard)",
             "is_guard_paper": "(guard, value)"},
    plans: {},
    rounds: {"is_pooled": "(plan)", "is_blurred": "(plan)", "stands_still": "(plan, *, most=4)",
             "pooled_book": "(plan)", "world_rounds": "(plan, world)"},
    carrying: {"unkept_behind": "(plan, book)", "broken_behind": "(plan, guard)", "book_ahead": "(plan, book)"},
    sketches: {},
    reasons: {"least_reasons": "(sketch, circle, one, other)", "idle_sayings": "(sketch)"},
    sketchpapers: {"sketch_paper": "(sketch)", "is_sketch_paper": "(sketch, value)",
                   "outlook_paper": "(sketch, circle, one, other)",
                   "is_outlook_paper": "(sketch, circle, one, other, value)"},
    office: {"replayed": "(journal)"},
}
METHODS = {
    Circle: {"parts": "(self)", "eyes": "(self)", "__str__": "(self)", "__repr__": "(self)",
             "__and__": "(self, other)", "__or__": "(self, other)", "__eq__": "(self, other)"},
    World: {"__init__": "(self, many, ties=())", "parted": "(many, partings)", "read": "(text)", "eyes": "(self)",
            "partings": "(self)", "parting": "(self, circle)", "alike": "(self, circle, one, other)",
            "tells": "(self, t, s)", "tied": "(self, name, one, other)", "kept_to": "(self, cases)",
            "exchanged": "(self, first, second)", "text": "(self)", "__add__": "(self, other)", "__str__": "(self)",
            "__repr__": "(self)", "__eq__": "(self, other)", "__len__": "(self)"},
    Frame: {"__init__": "(self, circle, *, rounds=2, less=0)", "ties": "(self)", "world": "(self)",
            "shows": "(self, circle)", "__len__": "(self)", "__eq__": "(self, other)", "__repr__": "(self)"},
    Stretch: {"__init__": "(self, world, eyes=())", "eyes": "(self)", "distance": "(self, one, other)",
              "lay": "(self, circle, one, other)", "world": "(self)", "twin": "(self)", "__len__": "(self)",
              "__repr__": "(self)"},
    Sights: {"__init__": "(self, world, eyes)", "eyes": "(self)", "partings": "(self)", "circle_for": "(self, parting)",
             "least_size": "(self, parting)", "inner": "(self, parting)", "outer": "(self, parting)",
             "__contains__": "(self, x)", "__len__": "(self)", "__repr__": "(self)"},
    Book: {"__init__": "(self, *grants)", "read": "(text)", "grants": "(self)", "eyes": "(self)",
           "with_grant": "(self, circle, name)", "without": "(self, at)", "only": "(self, lot)",
           "first_unkept": "(self, world)", "kept_by": "(self, world)", "exchanged": "(self, first, second)",
           "text": "(self)", "__add__": "(self, other)", "__iter__": "(self)", "__eq__": "(self, other)",
           "__bool__": "(self)", "__len__": "(self)", "__str__": "(self)", "__repr__": "(self)"},
    Guard: {"__init__": "(self, book, *bans)", "bans": "(self)", "with_book": "(self, book)",
            "with_ban": "(self, one, other)", "without_ban": "(self, at)", "first_broken": "(self)",
            "is_safe": "(self)", "one_world": "(self)", "unsafe_lots": "(self)", "safe_lots": "(self)",
            "may_add": "(self, circle, name)", "gains": "(self, circle, name, questions)",
            "__eq__": "(self, other)", "__bool__": "(self)", "__len__": "(self)", "__repr__": "(self)"},
    Plan: {"__init__": "(self, *shares)", "shares": "(self)", "eyes": "(self)", "image": "(self, name, *, rounds=1)",
           "images": "(self, *, rounds=1)", "pulled": "(self, circle, *, rounds=1)",
           "done": "(self, world, *, rounds=1)", "alike": "(self, other)", "unlike_eye": "(self, other)",
           "needless": "(self)", "exchangeable": "(self, at)", "lost": "(self)", "taken_back": "(self)",
           "without": "(self, at)", "followed_by": "(self, other)", "__eq__": "(self, other)",
           "__bool__": "(self)", "__len__": "(self)", "__repr__": "(self)"},
    Sketch: {"__init__": "(self, many, *sayings, under=None)", "sayings": "(self)", "bare": "(self)",
             "filling": "(self)", "first_broken": "(self)", "stands": "(self)", "kept_by": "(self, world)",
             "outlook": "(self, circle, one, other)", "with_saying": "(self, word, circle, one, other)",
             "without": "(self, at)", "merged": "(self, other)", "with_book": "(self, book)",
             "__eq__": "(self, other)", "__bool__": "(self)", "__len__": "(self)", "__repr__": "(self)"},
    Office: {"__init__": "(self)", "do": "(self, *deeds)", "undo": "(self)", "redo": "(self)", "history": "(self)",
             "journal": "(self)", "ask": "(self, *question)", "tried": "(self, deeds, question)",
             "world_of": "(self, name)", "guard_of": "(self, name)", "plan_of": "(self, name)",
             "sketch_of": "(self, name)", "twin": "(self)", "__contains__": "(self, x)", "__eq__": "(self, other)",
             "__bool__": "(self)", "__len__": "(self)", "__repr__": "(self)"},
}
HOMES = {Circle: "circles", World: "worlds", Frame: "frames", Stretch: "stretches", Sights: "sights", Book: "books",
         Guard: "guards", Plan: "plans", Sketch: "sketches", Office: "office"}
STATIC = {World: ["parted", "read"], Book: ["read"]}


def is_written_out(node):
    """Whether what a __str__ or a __repr__ returns is a string, an f-string, str(..), repr(..) or a literal's join."""
    if isinstance(node, ast.Constant):
        return isinstance(node.value, str)
    if not isinstance(node, ast.Call):
        return isinstance(node, ast.JoinedStr)
    if isinstance(node.func, ast.Name):
        return node.func.id in ("str", "repr")
    return node.func.attr == "join" and isinstance(node.func.value, ast.Constant)


def is_length(node):
    """Whether what a __len__ returns is len(..) or a literal number."""
    if isinstance(node, ast.Constant):
        return isinstance(node.value, int)
    return isinstance(node, ast.Call) and isinstance(node.func, ast.Name) and node.func.id == "len"


def imported_names(tree):
    """The list of the names that a file imports."""
    return [item.name for node in tree.body if isinstance(node, ast.ImportFrom) for item in node.names]


RETURNED = {"__str__": is_written_out, "__repr__": is_written_out, "__len__": is_length}


def source_files():
    """The files of the package."""
    return sorted(path for path in FOLDER.iterdir() if path.name != "__pycache__")


class FormTest(unittest.TestCase):
    def test_the_folder_has_the_modules_alone(self):
        self.assertEqual([path.name for path in source_files()],
                         sorted(["__init__.py"] + [name + ".py" for name in MODULES]))

    def test_lines_and_characters(self):
        for path in source_files():
            text = path.read_bytes().decode("ascii")
            self.assertLess(len(text.splitlines()), 400, path)
            self.assertLessEqual(max(len(line) for line in text.splitlines()), 120, path)
            self.assertEqual([one for one in text if one < " " and one != "\n"], [], path)

    def test_strings_have_no_percent_sign(self):
        for path in source_files():
            for node in ast.walk(ast.parse(path.read_text())):
                if isinstance(node, ast.Constant) and isinstance(node.value, str):
                    self.assertNotIn("%", node.value, path)

    def test_functions_are_short(self):
        for path in source_files():
            for node in ast.walk(ast.parse(path.read_text())):
                if isinstance(node, ast.FunctionDef):
                    self.assertLessEqual(node.end_lineno - node.lineno + 1, 40, (path, node.name))

    def test_modules_need_only_those_above(self):
        for at, name in enumerate(MODULES):
            for node in ast.walk(ast.parse((FOLDER / (name + ".py")).read_text())):
                self.assertNotIsInstance(node, ast.Import, name)
                if isinstance(node, ast.ImportFrom):
                    self.assertIn(node.module, ["pooledeyes." + above for above in MODULES[:at]], name)

    def test_functions_have_their_parameters_in_their_file(self):
        for module, functions in PARAMETERS.items():
            for name, parameters in functions.items():
                function = getattr(module, name)
                self.assertEqual(str(inspect.signature(function)), parameters, name)
                self.assertEqual(function.__module__, module.__name__)

    def test_classes_define_their_methods(self):
        self.assertEqual({kind: kind.__module__ for kind in METHODS},
                         {kind: "pooledeyes." + home for kind, home in HOMES.items()})
        for kind, methods in METHODS.items():
            for name, parameters in methods.items():
                self.assertIn(name, vars(kind))
                self.assertEqual(str(inspect.signature(getattr(kind, name))), parameters, (kind, name))

    def test_static_methods(self):
        for kind, names in STATIC.items():
            for name in names:
                self.assertIsInstance(vars(kind)[name], staticmethod)

    def test_properties(self):
        self.assertIsInstance(vars(Stretch)["spots"], property)
        self.assertIsInstance(vars(Office)["busy"], property)

    def test_strings_and_lengths_are_returned_as_the_rules_tell(self):
        found = []
        for path in source_files():
            for node in ast.walk(ast.parse(path.read_text())):
                if isinstance(node, ast.FunctionDef) and node.name in RETURNED:
                    found.append(node.name)
                    self.assertIsInstance(node.body[-1], ast.Return, path)
                    for row in ast.walk(node):
                        if isinstance(row, ast.Return):
                            self.assertTrue(RETURNED[node.name](row.value), (path, row.lineno))
        self.assertEqual(sorted(found), ["__len__"] * 9 + ["__repr__"] * 10 + ["__str__"] * 3)

    def test_no_name_hides_an_import_a_class_or_a_builtin(self):
        for path in source_files():
            tree = ast.parse(path.read_text())
            taken = imported_names(tree) + [node.name for node in tree.body if isinstance(node, ast.ClassDef)]
            for node in ast.walk(tree):
                if isinstance(node, ast.arg):
                    self.assertNotIn(node.arg, taken + dir(builtins), path)
                if isinstance(node, ast.Name) and isinstance(node.ctx, ast.Store):
                    self.assertNotIn(node.id, taken + dir(builtins), path)
                if isinstance(node, ast.FunctionDef):
                    self.assertNotIn(node.name, imported_names(tree), path)

    def test_imports_are_used(self):
        for path in source_files():
            tree = ast.parse(path.read_text())
            used = {node.id for node in ast.walk(tree) if isinstance(node, ast.Name)}
            self.assertEqual([name for name in imported_names(tree) if name not in used], [], path)

    def test_words_that_stand_in_no_file(self):
        for path in source_files():
            self.assertNotIn("_wall", path.read_text().lower(), path)


if __name__ == "__main__":
    unittest.main()
