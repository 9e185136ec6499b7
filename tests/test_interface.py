"""The interface: names, files, parameters, and the form of the files of the package."""

import ast
import importlib
import inspect
import itertools
import os
import unittest

from alikecrowds.desk import Desk, desk_text
from alikecrowds.tables import Table
from samples import sample_register, sample_table

PACKAGE = os.path.join(os.path.dirname(os.path.abspath(__file__)), "..", "alikecrowds")
LISTED = {
    "registers": {
        "Register": "text", "register_text": "columns kinds persons", "column_number": "census name",
        "person_number": "census name", "kinds_of": "census column", "above": "census column kind",
        "is_below": "census column one other", "lowest_above": "census column kinds",
        "loss_of": "census column kind",
    },
    "tables": {
        "Table": "census text", "table_text": "census rows", "is_mark": "census column value",
        "covers": "census column mark value", "is_finer": "census column one other",
        "joined_mark": "census column one other", "common_mark": "census column one other",
        "least_mark": "census column values", "fits": "table name row",
        "fitting_rows": "table name", "fitting_persons": "table row", "fits_many": "table",
        "equal_marks": "table", "marked": "table row marks",
    },
    "worlds": {
        "is_world": "table value", "persons_of": "table lot", "a_world": "table", "shows_world": "table value",
        "possible": "table name row", "shows_possible": "table name row value", "may_be_out": "table name",
        "shows_out": "table name value", "all_possible": "table", "all_out": "table", "sure_rows": "table",
    },
    "hiding": {
        "rows_of": "table name", "owners_of": "table row", "secrets_of": "table name", "hidden_by": "table name",
        "parted_by": "table name", "least_hidden": "table", "least_parted": "table", "exposed": "table",
        "hiding": "table many", "shows_hiding": "table many value", "crowds": "table", "blocks": "table",
    },
    "counts": {
        "worlds_many": "table", "worlds_with": "table name row", "nth_world": "table number",
        "number_of": "table world", "share": "table name secret", "shares": "table name", "surest": "table",
    },
    "line": {
        "stretch_loss": "values begin end", "middles": "values begin end",
        "line_loss": "values size crowds shown", "least_line": "values size", "shows_line": "values size value",
        "heights": "values size", "shows_heights": "values size value", "all_least": "values",
        "greatest_size": "values loss", "cuts_many": "values size", "one_more": "values size value",
    },
    "trees": {
        "kind_counts": "census column", "left_at": "census column counts lifts",
        "lift_loss": "census column counts lifts", "are_right": "census column counts k value",
        "least_lifts": "census column counts k", "shows_least_lifts": "census column counts k value",
        "lifts_many": "census column counts k", "floors": "census column counts k",
        "all_losses": "census column counts", "greatest_k": "census column counts loss",
        "shared_out": "census column counts lifts", "shows_shared_out": "census column counts lifts value",
    },
    "making": {
        "are_marks": "census value", "own_marks": "census name", "joined_marks": "census one other",
        "common_marks": "census one other", "marks_below": "census one other", "loss_of_marks": "census marks",
        "crowd_marks": "census persons", "are_crowds": "census value", "least_crowd": "crowds",
        "made_table": "census secrets crowds sequence", "marked_table": "census secrets marks sequence",
        "is_made": "table crowds", "widened": "table rows marks", "table_loss": "table",
        "least_crowds": "census least", "shows_least_crowds": "census least value",
    },
    "telling": {
        "is_told": "table value", "keeps": "table told world", "world_told": "table told",
        "shows_world_told": "table told value", "possible_told": "table told name row",
        "shows_possible_told": "table told name row value", "rows_told": "table told name",
        "secrets_told": "table told name", "sure_told": "table told", "given_away": "table truth names",
        "least_telling": "table truth name", "shows_least_telling": "table truth name value",
    },
    "joined": {
        "joint_many": "table other", "a_joint": "table other", "shows_joint": "table other value",
        "joint_secrets": "table other name", "joint_can": "table other name secret",
        "shows_joint_can": "table other name secret value", "newly_known": "table other",
        "columns_alone": "census names", "table_alone": "table names",
    },
    "edits": {
        "with_mark": "table row column mark", "without_row": "table row", "with_row": "table marks secret",
        "with_person": "table name values", "without_person": "table name", "pairs": "table", "idle_pairs": "table",
        "changed": "one other", "is_coarser": "one other", "least_widening": "table name many row column",
        "shows_widening": "table name many row column value", "least_rows": "table name many",
        "shows_rows": "table name many value",
    },
    "desk": {"Desk": "", "desk_text": "desk", "read_desk": "text"},
}
METHODS = {
    "lead": "deed", "thing_kind": "name", "thing_of": "name", "register_of": "name", "told_of": "name",
    "secrets_of": "name person", "sure_of": "name", "undo": "", "redo": "", "note": "word", "notes": "", "back": "word",
    "all_deeds": "",
}
WIDE = sample_table()
LOOSE = Table(sample_register(), "row 31..40 all cold")
# What calls by names are given, where a function needs something else than the others.
SHOWN = ("hidden", tuple((name, ((row, (1, 0, 2)),)) for name, row in (("ann", 1), ("bob", 0), ("cid", 2))))
LINE = {"values": (7, 1, 2, 9, 8, 2), "size": 3}
MARKS = (((31, 31), "pole"), ((-2, 0), "all"), ((40, 41), "south"))
SPECIAL = {
    "Table": {"text": "row 1..2 all flu"}, "column_number": {"name": "home"},
    "lowest_above": {"kinds": ("pole",)}, "possible": {"row": 1}, "worlds_with": {"row": 2},
    "is_world": {"value": (1, 0, 2)}, "shows_world": {"value": ("world", (1, 0, 2))},
    "shows_possible": {"value": ("can", (1, 0, 2)), "row": 1},
    "shows_out": {"value": ("cannot", (0, 1, 2))}, "shows_hiding": {"value": SHOWN, "many": 1},
    "stretch_loss": LINE, "middles": LINE, "least_line": LINE, "heights": LINE, "all_least": LINE,
    "greatest_size": LINE, "cuts_many": LINE, "one_more": {**LINE, "value": 8},
    "line_loss": {**LINE, "crowds": ((1, 2, 5), (0, 3, 4))}, "shows_heights": {**LINE, "value": (0, 3, 3, 1, 3, 3, 3)},
    "shows_line": {**LINE, "value": (3, ((1, 2, 5), (0, 3, 4)), (2, 8))},
    "are_right": {"value": (0, 2, 1, 1)}, "shows_least_lifts": {"value": (22, (0, 2, 1, 1))},
    "shows_shared_out": {"value": ((1, 0, 1), (2, 1, 1), (3, 0, 1))},
    "are_marks": {"value": ((1, 2), "all")}, "joined_marks": {"one": MARKS[0], "other": MARKS[1]},
    "common_marks": {"one": MARKS[0], "other": MARKS[1]}, "marks_below": {"one": MARKS[0], "other": MARKS[1]},
    "crowd_marks": {"persons": (0, 2)}, "are_crowds": {"value": ((0, 2), (1,))},
    "marked_table": {"marks": MARKS}, "widened": {"rows": (0, 2)},
    "shows_least_crowds": {"value": (153, ((0, 1, 2),))},
    "is_told": {"value": (("ann", "flu"),)}, "shows_world_told": {"value": ("world", (1, 0, 2))},
    "possible_told": {"row": 1}, "shows_possible_told": {"value": ("can", (1, 0, 2)), "row": 1},
    "shows_least_telling": {"value": ("cid",)},
    "columns_alone": {"names": ("home",)}, "table_alone": {"names": ("age",)},
    "with_person": {"name": "zoe", "values": (1, "all")}, "changed": {"one": WIDE, "other": WIDE},
    "is_coarser": {"one": WIDE, "other": WIDE}, "shows_widening": {"value": (0, "north"), "many": 1},
    "with_row": {"table": LOOSE}, "without_person": {"table": LOOSE}, "shows_rows": {"value": (0, ())},
    "read_desk": {"text": "stand 0\nnote a 0"},
}
for NAME in LISTED["joined"]:
    SPECIAL.setdefault(NAME, {}).update({"other": WIDE, "value": ((1, 2, 0), (1, 2, 0))})


def sample_desk():
    """A desk with a register, a table, and something told."""
    desk = Desk()
    desk.lead(("register", "town", "column age line\nperson ann 30\nperson bob 34"))
    desk.lead(("table", "flu", "town", "row 30..34 yes\nrow 30..34 no"))
    desk.lead(("out", "flu", "ann", "yes"))
    desk.note("begin")
    return desk


def given():
    """What calls by names are given, by the names of the parameters."""
    return {
        "text": "column age line\nperson ann 30", "columns": (("age", "line"),), "kinds": (), "persons": (),
        "census": sample_register(), "name": "ann", "column": "home", "kind": "pole", "one": "pole",
        "other": "north", "rows": (), "value": "pole", "mark": "north", "values": ("pole",), "row": 0,
        "table": sample_table(), "marks": ((0, 1), "all"), "lot": (1, 2), "many": 2, "number": 1,
        "world": (1, 0, 2), "secret": "flu", "begin": 0, "end": 2, "shown": (2, 8), "loss": 3, "k": 2,
        "counts": (0, 1, 1, 1), "lifts": (0, 1, 1, 1), "secrets": ("flu", "cold", "flu"),
        "crowds": ((0, 2), (1,)), "sequence": (2, 0, 1), "least": 2, "told": (("ann", "cold"),),
        "truth": (1, 0, 2), "names": ("ann", "bob"), "desk": sample_desk(),
    }


def package_texts():
    """Each file of the package, a pair of its name and its text."""
    found = []
    for name in sorted(os.listdir(PACKAGE)):
        if name != "__pycache__":
            with open(os.path.join(PACKAGE, name), encoding="utf-8") as file:
                found.append((name, file.read()))
    return found


class Interface(unittest.TestCase):
    def test_names_stand_in_their_files_with_their_parameters(self):
        for file, names in LISTED.items():
            module = importlib.import_module("alikecrowds." + file)
            for name, parameters in names.items():
                thing = getattr(module, name)
                self.assertEqual(thing.__module__, "alikecrowds." + file)
                self.assertEqual(list(inspect.signature(thing).parameters), parameters.split(), name)

    def calls(self):
        """(name, call, pairs of a parameter and a value) for each name of the interface, with new objects."""
        found = []
        for file, names in LISTED.items():
            module = importlib.import_module("alikecrowds." + file)
            for name, parameters in names.items():
                named = [(word, {**given(), **SPECIAL.get(name, {})}[word]) for word in parameters.split()]
                found.append((name, getattr(module, name), named))
        return found

    def plain(self, found):
        """What can be compared: the journal of a desk."""
        return desk_text(found) if isinstance(found, Desk) else found

    def test_arguments_are_passed_by_name(self):
        for name, call, named in self.calls():
            wanted = self.plain(call(*[value for _, value in named]))
            self.assertTrue(wanted is True or not name.startswith("shows"), name)
            for turned in itertools.permutations(named):
                self.assertEqual(self.plain(call(**dict(turned))), wanted, name)

    def test_equal_calls_with_others_in_between(self):
        wanted = {name: self.plain(call(**dict(named))) for name, call, named in self.calls()}
        kept = self.calls()
        for name, call, named in self.calls()[::-1] + kept + kept[::-1]:
            self.assertEqual(self.plain(call(**dict(named))), wanted[name], name)

    def test_methods_of_desks(self):
        parts = {"deed": ("drop", "flu"), "name": "flu", "person": "bob", "word": "begin"}
        for name, parameters in METHODS.items():
            self.assertIn(name, vars(Desk))
            call = getattr(Desk, name)
            self.assertEqual(list(inspect.signature(call).parameters), ["self"] + parameters.split(), name)
            desks = [sample_desk() for _ in range(2)]
            for desk in desks:
                desk.lead(("hush", "flu", "ann"))
                if name == "redo":
                    desk.undo()
            named = [(word, parts[word]) for word in parameters.split()]
            wanted = getattr(desks[0], name)(*[value for _, value in named])
            for turned in itertools.permutations(named):
                desk = sample_desk() if name in ("lead", "redo", "undo") else desks[1]
                if name == "redo":
                    desk.undo()
                self.assertEqual(getattr(desk, name)(**dict(turned)), wanted)
            if name in ("lead", "undo", "redo", "note", "back"):
                self.assertIsNone(wanted)

    def test_methods_stand_in_the_classes_themselves(self):
        for thing in (sample_register(), sample_table()):
            self.assertIn("__eq__", vars(type(thing)))
            self.assertIn("__len__", vars(type(thing)))
        for name in ("names", "__len__", "__contains__"):
            self.assertIn(name, vars(Desk))

    def test_objects_are_equal_to_nothing_else(self):
        for thing in (sample_register(), sample_table()):
            for other in (thing.text, None, (thing,), 0, sample_desk()):
                self.assertFalse(thing == other)
                self.assertTrue(thing != other)


class Form(unittest.TestCase):
    def test_the_folder_holds_python_files_alone(self):
        for name, text in package_texts():
            self.assertRegex(name, "^[a-z_]+[.]py$")
            self.assertTrue(text.isascii(), name)
            self.assertNotIn("\t", text, name)

    def test_sizes(self):
        for name, text in package_texts():
            lines = text.split("\n")
            self.assertLessEqual(len(lines), 399, name)
            self.assertLessEqual(max(len(line) for line in lines), 120, name)
            for part in ast.walk(ast.parse(text)):
                if isinstance(part, ast.FunctionDef):
                    self.assertLessEqual(part.end_lineno - part.lineno + 1, 40, part.name)

    def test_imports_are_from_the_package_or_allowed(self):
        allowed = ("heapq", "math", "itertools", "collections")
        for name, text in package_texts():
            for part in ast.walk(ast.parse(text)):
                self.assertNotIsInstance(part, ast.Import, name)
                if isinstance(part, ast.ImportFrom):
                    self.assertEqual(part.level, 0, name)
                    self.assertTrue(part.module.startswith("alikecrowds.") or part.module in allowed, name)


if __name__ == "__main__":
    unittest.main()
