"""The interface: names, files, parameters, and the form of the files of the package."""

import ast
import importlib
import inspect
import os
import unittest

from samples import sample_register, sample_table

PACKAGE = os.path.join(os.path.dirname(os.path.abspath(__file__)), "..", "alikecrowds")
LISTED = {
    "registers": {
        "Register": "text", "register_text": "columns kinds persons", "column_number": "census name",
        "person_number": "census name", "kinds_of": "census column", "above": "census column kind",
        "is_below": "census column one other", "lowest_above": "census column kinds",
        "loss_of": "census column kind",
    },
    "tables": {
        "Table": "census text", "table_text": "census rows", "is_mark": "census column value",
        "covers": "census column mark value", "is_finer": "census column one other",
        "joined_mark": "census column one other", "common_mark": "census column one other",
        "least_mark": "census column values", "fits": "table name row",
        "fitting_rows": "table name", "fitting_persons": "table row", "fits_many": "table",
        "equal_marks": "table", "marked": "table row marks",
    },
}


def package_texts():
    """Each file of the package, a pair of its name and its text."""
    found = []
    for name in sorted(os.listdir(PACKAGE)):
        if name != "__pycache__":
            with open(os.path.join(PACKAGE, name), encoding="utf-8") as file:
                found.append((name, file.read()))
    return found


class Interface(unittest.TestCase):
    def test_names_stand_in_their_files_with_their_parameters(self):
        for file, names in LISTED.items():
            module = importlib.import_module("alikecrowds." + file)
            for name, parameters in names.items():
                thing = getattr(module, name)
                self.assertEqual(thing.__module__, "alikecrowds." + file)
                self.assertEqual(list(inspect.signature(thing).parameters), parameters.split(), name)

    def test_arguments_are_passed_by_name(self):
        given = {
            "text": "column age line\nperson ann 30", "columns": (("age", "line"),), "kinds": (), "persons": (),
            "census": sample_register(), "name": "ann", "column": "home", "kind": "pole", "one": "pole",
            "other": "north", "rows": (), "value": "pole", "mark": "north", "values": ("pole",), "row": 0,
            "table": sample_table(), "marks": ((0, 1), "all"),
        }
        for file, names in LISTED.items():
            module = importlib.import_module("alikecrowds." + file)
            for name, parameters in names.items():
                named = {word: given[word] for word in parameters.split()}
                if name == "Table":
                    named["text"] = "row 1..2 all flu"
                elif name == "column_number":
                    named["name"] = "home"
                elif name == "lowest_above":
                    named["kinds"] = ("pole",)
                by_name = getattr(module, name)(**named)
                self.assertEqual(by_name, getattr(module, name)(*named.values()), name)

    def test_methods_stand_in_the_classes_themselves(self):
        for thing in (sample_register(), sample_table()):
            self.assertIn("__eq__", vars(type(thing)))
            self.assertIn("__len__", vars(type(thing)))


class Form(unittest.TestCase):
    def test_the_folder_holds_python_files_alone(self):
        for name, text in package_texts():
            self.assertRegex(name, "^[a-z_]+[.]py$")
            self.assertTrue(text.isascii(), name)
            self.assertNotIn("\t", text, name)

    def test_sizes(self):
        for name, text in package_texts():
            lines = text.split("\n")
            self.assertLessEqual(len(lines), 399, name)
            self.assertLessEqual(max(len(line) for line in lines), 120, name)
            for part in ast.walk(ast.parse(text)):
                if isinstance(part, ast.FunctionDef):
                    self.assertLessEqual(part.end_lineno - part.lineno + 1, 40, part.name)

    def test_imports_are_from_the_package_or_allowed(self):
        allowed = ("heapq", "math", "itertools", "collections")
        for name, text in package_texts():
            for part in ast.walk(ast.parse(text)):
                self.assertNotIsInstance(part, ast.Import, name)
                if isinstance(part, ast.ImportFrom):
                    self.assertEqual(part.level, 0, name)
                    self.assertTrue(part.module.startswith("alikecrowds.") or part.module in allowed, name)


if __name__ == "__main__":
    unittest.main()
