"""The interface: names, files, parameters, and the form of the files of the package."""

import ast
import importlib
import inspect
import itertools
import os
import unittest

from samples import sample_register, sample_table

PACKAGE = os.path.join(os.path.dirname(os.path.abspath(__file__)), "..", "alikecrowds")
LISTED = {
    "registers": {
        "Register": "text", "register_text": "columns kinds persons", "column_number": "census name",
        "person_number": "census name", "kinds_of": "census column", "above": "census column kind",
        "is_below": "census column one other", "lowest_above": "census column kinds",
        "loss_of": "census column kind",
    },
    "tables": {
        "Table": "census text", "table_text": "census rows", "is_mark": "census column value",
        "covers": "census column mark value", "is_finer": "census column one other",
        "joined_mark": "census column one other", "common_mark": "census column one other",
        "least_mark": "census column values", "fits": "table name row",
        "fitting_rows": "table name", "fitting_persons": "table row", "fits_many": "table",
        "equal_marks": "table", "marked": "table row marks",
    },
    "worlds": {
        "is_world": "table value", "persons_of": "table lot", "a_world": "table", "shows_world": "table value",
        "possible": "table name row", "shows_possible": "table name row value", "may_be_out": "table name",
        "shows_out": "table name value", "all_possible": "table", "all_out": "table", "sure_rows": "table",
    },
    "hiding": {
        "rows_of": "table name", "owners_of": "table row", "secrets_of": "table name", "hidden_by": "table name",
        "parted_by": "table name", "least_hidden": "table", "least_parted": "table", "exposed": "table",
        "hiding": "table many", "shows_hiding": "table many value", "crowds": "table", "blocks": "table",
    },
    "counts": {
        "worlds_many": "table", "worlds_with": "table name row", "nth_world": "table number",
        "number_of": "table world", "share": "table name secret", "shares": "table name", "surest": "table",
    },
    "line": {
        "stretch_loss": "values begin end", "middles": "values begin end",
        "line_loss": "values size crowds shown", "least_line": "values size", "shows_line": "values size value",
        "heights": "values size", "shows_heights": "values size value", "all_least": "values",
        "greatest_size": "values loss", "cuts_many": "values size", "one_more": "values size value",
    },
    "trees": {
        "kind_counts": "census column", "left_at": "census column counts lifts",
        "lift_loss": "census column counts lifts", "are_right": "census column counts k value",
        "least_lifts": "census column counts k", "shows_least_lifts": "census column counts k value",
        "lifts_many": "census column counts k", "floors": "census column counts k",
        "all_losses": "census column counts", "greatest_k": "census column counts loss",
        "shared_out": "census column counts lifts", "shows_shared_out": "census column counts lifts value",
    },
    "making": {
        "are_marks": "census value", "own_marks": "census name", "joined_marks": "census one other",
        "common_marks": "census one other", "marks_below": "census one other", "loss_of_marks": "census marks",
        "crowd_marks": "census persons", "are_crowds": "census value", "least_crowd": "crowds",
        "made_table": "census secrets crowds sequence", "marked_table": "census secrets marks sequence",
        "is_made": "table crowds", "widened": "table rows marks", "table_loss": "table",
        "least_crowds": "census least", "shows_least_crowds": "census least value",
    },
}
# What calls by names are given, where a function needs something else than the others.
SHOWN = ("hidden", tuple((name, ((row, (1, 0, 2)),)) for name, row in (("ann", 1), ("bob", 0), ("cid", 2))))
LINE = {"values": (7, 1, 2, 9, 8, 2), "size": 3}
MARKS = (((31, 31), "pole"), ((-2, 0), "all"), ((40, 41), "south"))
SPECIAL = {
    "Table": {"text": "row 1..2 all flu"}, "column_number": {"name": "home"},
    "lowest_above": {"kinds": ("pole",)}, "possible": {"row": 1}, "worlds_with": {"row": 2},
    "is_world": {"value": (1, 0, 2)}, "shows_world": {"value": ("world", (1, 0, 2))},
    "shows_possible": {"value": ("can", (1, 0, 2)), "row": 1},
    "shows_out": {"value": ("cannot", (0, 1, 2))}, "shows_hiding": {"value": SHOWN, "many": 1},
    "stretch_loss": LINE, "middles": LINE, "least_line": LINE, "heights": LINE, "all_least": LINE,
    "greatest_size": LINE, "cuts_many": LINE, "one_more": {**LINE, "value": 8},
    "line_loss": {**LINE, "crowds": ((1, 2, 5), (0, 3, 4))}, "shows_heights": {**LINE, "value": (0, 3, 3, 1, 3, 3, 3)},
    "shows_line": {**LINE, "value": (3, ((1, 2, 5), (0, 3, 4)), (2, 8))},
    "are_right": {"value": (0, 2, 1, 1)}, "shows_least_lifts": {"value": (22, (0, 2, 1, 1))},
    "shows_shared_out": {"value": ((1, 0, 1), (2, 1, 1), (3, 0, 1))},
    "are_marks": {"value": ((1, 2), "all")}, "joined_marks": {"one": MARKS[0], "other": MARKS[1]},
    "common_marks": {"one": MARKS[0], "other": MARKS[1]}, "marks_below": {"one": MARKS[0], "other": MARKS[1]},
    "crowd_marks": {"persons": (0, 2)}, "are_crowds": {"value": ((0, 2), (1,))},
    "marked_table": {"marks": MARKS}, "widened": {"rows": (0, 2)},
    "shows_least_crowds": {"value": (153, ((0, 1, 2),))},
}


def given():
    """What calls by names are given, by the names of the parameters."""
    return {
        "text": "column age line\nperson ann 30", "columns": (("age", "line"),), "kinds": (), "persons": (),
        "census": sample_register(), "name": "ann", "column": "home", "kind": "pole", "one": "pole",
        "other": "north", "rows": (), "value": "pole", "mark": "north", "values": ("pole",), "row": 0,
        "table": sample_table(), "marks": ((0, 1), "all"), "lot": (1, 2), "many": 2, "number": 1,
        "world": (1, 0, 2), "secret": "flu", "begin": 0, "end": 2, "shown": (2, 8), "loss": 3, "k": 2,
        "counts": (0, 1, 1, 1), "lifts": (0, 1, 1, 1), "secrets": ("flu", "cold", "flu"),
        "crowds": ((0, 2), (1,)), "sequence": (2, 0, 1), "least": 2,
    }


def package_texts():
    """Each file of the package, a pair of its name and its text."""
    found = []
    for name in sorted(os.listdir(PACKAGE)):
        if name != "__pycache__":
            with open(os.path.join(PACKAGE, name), encoding="utf-8") as file:
                found.append((name, file.read()))
    return found


class Interface(unittest.TestCase):
    def test_names_stand_in_their_files_with_their_parameters(self):
        for file, names in LISTED.items():
            module = importlib.import_module("alikecrowds." + file)
            for name, parameters in names.items():
                thing = getattr(module, name)
                self.assertEqual(thing.__module__, "alikecrowds." + file)
                self.assertEqual(list(inspect.signature(thing).parameters), parameters.split(), name)

    def test_arguments_are_passed_by_name(self):
        for file, names in LISTED.items():
            module = importlib.import_module("alikecrowds." + file)
            for name, parameters in names.items():
                call = getattr(module, name)
                named = [(word, {**given(), **SPECIAL.get(name, {})}[word]) for word in parameters.split()]
                wanted = call(*[value for _, value in named])
                self.assertTrue(wanted is True or not name.startswith("shows"), name)
                for turned in itertools.permutations(named):
                    self.assertEqual(call(**dict(turned)), wanted, name)

    def test_methods_stand_in_the_classes_themselves(self):
        for thing in (sample_register(), sample_table()):
            self.assertIn("__eq__", vars(type(thing)))
            self.assertIn("__len__", vars(type(thing)))


class Form(unittest.TestCase):
    def test_the_folder_holds_python_files_alone(self):
        for name, text in package_texts():
            self.assertRegex(name, "^[a-z_]+[.]py$")
            self.assertTrue(text.isascii(), name)
            self.assertNotIn("\t", text, name)

    def test_sizes(self):
        for name, text in package_texts():
            lines = text.split("\n")
            self.assertLessEqual(len(lines), 399, name)
            self.assertLessEqual(max(len(line) for line in lines), 120, name)
            for part in ast.walk(ast.parse(text)):
                if isinstance(part, ast.FunctionDef):
                    self.assertLessEqual(part.end_lineno - part.lineno + 1, 40, part.name)

    def test_imports_are_from_the_package_or_allowed(self):
        allowed = ("heapq", "math", "itertools", "collections")
        for name, text in package_texts():
            for part in ast.walk(ast.parse(text)):
                self.assertNotIsInstance(part, ast.Import, name)
                if isinstance(part, ast.ImportFrom):
                    self.assertEqual(part.level, 0, name)
                    self.assertTrue(part.module.startswith("alikecrowds.") or part.module in allowed, name)


if __name__ == "__main__":
    unittest.main()
