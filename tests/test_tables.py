"""Point 5: marks, whom rows fit, and what holds FOR ALL."""

import itertools
import random

from alikecrowds.errors import BadMark, BadMarks, BadValue, BadValues, NoColumn, NoPerson, NoRow
from alikecrowds.registers import Register, is_below
from alikecrowds.tables import Table, common_mark, covers, equal_marks, fits, fits_many, fitting_persons, fitting_rows
from alikecrowds.tables import is_finer, is_mark, joined_mark, least_mark, marked
from samples import ROWS, CrowdCase, anything, joined, sample_register, sample_table

KINDS = ("all", "north", "pole", "south")
NO_COLUMNS = ["ann", "pole", "ag", 0, ("age",), "none"]
NO_LINE_MARKS = [
    (2, 1), (1,), (1, 2, 3), [1, 2], (True, 2), (0, True), (False, True), ("1", "2"), (1, None), "1..2", 1, (1, (2,)),
    (-1000001, 1), (1, 1000001), ((1, 2),), ([1], [2]), {1: 2}, "all", "age",
]
NO_KINDS = ["none", "home", "east", 0, ("all",), ["all"], (1, 2), {"all": 1}, "al", 9]
NO_VALUES = [1000001, -1000001, "31", (31,), [31], (1, 2), {31: 1}, "all"]
DRAWN = """column age line
column home kinds
column size line
column food kinds
kind home k0 none 5
kind home k1 k0 5
kind food k0 none 9
kind home k2 k1 5
kind home k3 k1 4
kind food k1 k0 0
kind home k4 k0 0"""


def drawn_table(dice):
    """A table that is drawn, with small numbers in it."""
    persons = []
    for number in range(dice.randint(1, 12)):
        words = [dice.randint(-5, 5), f"k{dice.randint(0, 4)}", dice.randint(-5, 5), f"k{dice.randint(0, 1)}"]
        persons.append(f"person p{number} " + " ".join([str(word) for word in words]))
    census = Register(joined(DRAWN, persons))
    rows = []
    for _ in range(dice.randint(0, len(persons))):
        words = [drawn_stretch(dice), f"k{dice.randint(0, 4)}", drawn_stretch(dice), f"k{dice.randint(0, 1)}"]
        rows.append(" ".join(["row"] + words + [dice.choice(("flu", "cold"))]))
    return Table(census, joined(rows))


def drawn_stretch(dice):
    low, high = sorted((dice.randint(-6, 6), dice.randint(-6, 6)))
    return f"{low}..{high}"


class Marks(CrowdCase):
    def test_is_mark(self):
        census = sample_register()
        for mark in ((1, 2), (2, 2), (0, 0), (-1000000, 1000000), (-2, -1), (-3, 0)):
            self.check(is_mark(census, "age", mark), True)
            self.check(is_mark(census, "home", mark), False)
        for kind in KINDS:
            self.check(is_mark(census, "home", kind), True)
            self.check(is_mark(census, "age", kind), False)
        for value in NO_LINE_MARKS + anything():
            self.check(is_mark(census, "age", value), False)
        for value in NO_KINDS + anything():
            self.check(is_mark(census, "home", value), False)

    def test_covers(self):
        census = sample_register()
        for value, wanted in ((1, False), (2, True), (3, True), (4, True), (5, False), (-3, False)):
            self.check(covers(census, "age", (2, 4), value), wanted)
        self.check(covers(census, "age", (-1000000, 1000000), -1000000), True)
        self.check(covers(census, "age", (-1000000, 1000000), 1000000), True)
        self.check(covers(census, "age", (7, 7), 7), True)
        for mark in KINDS:
            for value in KINDS:
                self.check(covers(census, "home", mark, value), is_below(census, "home", value, mark))

    def test_is_finer_of_lines(self):
        census = sample_register()
        told = {((1, 2), (0, 2)): True, ((0, 2), (1, 2)): False, ((1, 2), (1, 2)): True, ((1, 3), (1, 2)): False}
        told.update({((1, 2), (1, 3)): True, ((1, 2), (3, 4)): False, ((2, 3), (1, 4)): True, ((1, 4), (2, 3)): False})
        told.update({((1, 3), (2, 4)): False, ((2, 4), (1, 3)): False, ((-4, -3), (-5, 0)): True})
        for (one, other), wanted in told.items():
            self.check(is_finer(census, "age", one, other), wanted)

    def test_is_finer_of_kinds(self):
        census = sample_register()
        for one in KINDS:
            for other in KINDS:
                self.check(is_finer(census, "home", one, other), is_below(census, "home", one, other))

    def test_joined_and_common_of_lines(self):
        census = sample_register()
        told = {((1, 2), (7, 9)): ((1, 9), None), ((7, 9), (1, 2)): ((1, 9), None), ((1, 5), (3, 9)): ((1, 9), (3, 5))}
        told.update({((3, 9), (1, 5)): ((1, 9), (3, 5)), ((1, 9), (3, 5)): ((1, 9), (3, 5))})
        told[((1, 2), (2, 3))] = ((1, 3), (2, 2))
        told.update({((1, 2), (3, 4)): ((1, 4), None), ((-3, -3), (-3, -3)): ((-3, -3), (-3, -3))})
        told[((-1000000, 0), (0, 1000000))] = ((-1000000, 1000000), (0, 0))
        for (one, other), (joint, common) in told.items():
            self.check(joined_mark(census, "age", one, other), joint)
            self.check(common_mark(census, "age", one, other), common)

    def test_joined_and_common_of_kinds(self):
        census = sample_register()
        told = {("pole", "south"): ("all", None), ("north", "south"): ("all", None)}
        told.update({("pole", "north"): ("north", "pole"), ("pole", "all"): ("all", "pole")})
        told.update({("north", "all"): ("all", "north"), ("all", "south"): ("all", "south")})
        for (one, other), (joint, common) in told.items():
            for first, second in ((one, other), (other, one)):
                self.check(joined_mark(census, "home", first, second), joint)
                self.check(common_mark(census, "home", first, second), common)
        for kind in KINDS:
            self.check(joined_mark(census, "home", kind, kind), kind)
            self.check(common_mark(census, "home", kind, kind), kind)

    def test_least_mark(self):
        census = sample_register()
        told = {(31, -2, 7): (-2, 31), (5,): (5, 5), (5, 5): (5, 5), (1000000, -1000000): (-1000000, 1000000)}
        told[tuple(range(500, 0, -1))] = (1, 500)
        for values, wanted in told.items():
            self.check(least_mark(census, "age", values), wanted)
        told = {("pole", "south"): "all", ("pole",): "pole", ("pole", "north", "pole"): "north"}
        told[("south", "all")] = "all"
        for values, wanted in told.items():
            self.check(least_mark(census, "home", values), wanted)

    def test_what_holds_for_all_marks(self):
        census = Register(DRAWN)
        values = {"age": range(-2, 4), "home": [f"k{number}" for number in range(5)]}
        marks = {"age": [pair for pair in itertools.product(range(-1, 3), repeat=2) if pair[0] <= pair[1]]}
        marks["home"] = values["home"]
        for column in ("age", "home"):
            covered = {mark: {value for value in values[column] if covers(census, column, mark, value)}
                       for mark in marks[column]}
            for one, other in itertools.product(marks[column], repeat=2):
                self.check(is_finer(census, column, one, other), covered[one] <= covered[other])
                self.assertTrue(one == other or covered[one] != covered[other])
                both = joined_mark(census, column, one, other)
                self.assertTrue(covered[one] | covered[other] <= covered[both])
                for mark in marks[column]:
                    if covered[one] | covered[other] <= covered[mark]:
                        self.assertTrue(covered[both] <= covered[mark])
                common = common_mark(census, column, one, other)
                self.assertEqual(covered[one] & covered[other], set() if common is None else covered[common])


class WrongMarks(CrowdCase):
    def test_no_column(self):
        census = sample_register()
        for column in anything() + NO_COLUMNS:
            self.check_raises(NoColumn, column, is_mark, census, column, (1, 2))
            self.check_raises(NoColumn, column, covers, census, column, None, None)
            self.check_raises(NoColumn, column, least_mark, census, column, None)
            for call in (is_finer, joined_mark, common_mark):
                self.check_raises(NoColumn, column, call, census, column, None, "x")

    def test_no_mark(self):
        census = sample_register()
        for column, good, wrong in (("age", (1, 2), NO_LINE_MARKS), ("home", "all", NO_KINDS)):
            for mark in wrong + anything():
                self.check_raises(BadMark, mark, covers, census, column, mark, [None])
                for call in (is_finer, joined_mark, common_mark):
                    self.check_raises(BadMark, mark, call, census, column, mark, good)
                    self.check_raises(BadMark, mark, call, census, column, mark, [None])
                    self.check_raises(BadMark, mark, call, census, column, good, mark)

    def test_no_value(self):
        census = sample_register()
        for value in NO_VALUES + [part for part in anything() if part != -1]:
            self.check_raises(BadValue, value, covers, census, "age", (-1000000, 1000000), value)
        for value in anything() + NO_KINDS:
            self.check_raises(BadValue, value, covers, census, "home", "all", value)

    def test_no_values(self):
        census = sample_register()
        wrong = [[1, 2], (1, True), (True,), (1, None), (None, 1), ("1",), 1, {1: 2}, ((1, 2),)]
        wrong += [(1, 1000001), (-1000001,), (1, 2, [3])]
        for values in wrong + anything():
            self.check_raises(BadValues, values, least_mark, census, "age", values)
        wrong = [["all"], "all", ("all", "none"), ("none", "all"), ("all", None), (1,), ("all", ["pole"]), {"all": 1}]
        for values in wrong + anything():
            self.check_raises(BadValues, values, least_mark, census, "home", values)


class Fitting(CrowdCase):
    def test_the_sample(self):
        table = sample_table()
        wanted = {"ann": (0, 1, 2), "bob": (0,), "cid": (1, 2)}
        for name, rows in wanted.items():
            self.check(fitting_rows(table, name), rows)
            for row in range(3):
                self.check(fits(table, name, row), row in rows)
        self.check([fitting_persons(table, row) for row in range(3)], [(0, 1), (0, 2), (0, 2)])
        self.check((fits_many(table), equal_marks(table)), (6, ((0,), (1, 2))))

    def test_each_column_counts(self):
        census = sample_register()
        told = {"31..31 pole": (0,), "30..30 pole": (), "31..31 south": (), "-2..40 all": (0, 1, 2)}
        for marks, wanted in told.items():
            self.check(fitting_persons(Table(census, f"row {marks} flu"), 0), wanted)

    def test_without_rows(self):
        table = Table(sample_register(), "")
        self.check((fits_many(table), equal_marks(table), fitting_rows(table, "ann")), (0, (), ()))
        nobody = Table(Register("column a line"), "")
        self.check((fits_many(nobody), equal_marks(nobody)), (0, ()))

    def test_equal_marks(self):
        persons = [f"person p{number} {number} all" for number in range(6)]
        head = ["column age line", "column home kinds", "kind home all none 1", "kind home b all 1"]
        census = Register(joined(head, persons))
        rows = ["row 1..2 all flu", "row 1..2 b flu", "row 1..2 all cold", "row 1..3 all flu"]
        rows += ["row 1..2 b flu", "row 1..2 all flu"]
        self.check(equal_marks(Table(census, joined(rows))), ((0, 2, 5), (1, 4), (3,)))

    def test_drawn_tables(self):
        dice = random.Random(5)
        for _ in range(60):
            table = drawn_table(dice)
            census = table.census
            pairs = []
            for name, values in census.persons:
                for row, (marks, _) in enumerate(table.rows):
                    parts = zip(census.columns, marks, values)
                    if all(covers(census, column, mark, value) for (column, _), mark, value in parts):
                        pairs.append((name, row))
            names = [name for name, _ in census.persons]
            self.check(fits_many(table), len(pairs))
            for number, name in enumerate(names):
                self.check(fitting_rows(table, name), tuple(row for row in range(len(table)) if (name, row) in pairs))
                for row in range(len(table)):
                    self.check(fits(table, name, row), (name, row) in pairs)
            for row, (marks, _) in enumerate(table.rows):
                wanted = tuple(number for number, name in enumerate(names) if (name, row) in pairs)
                self.check(fitting_persons(table, row), wanted)
                lot = tuple(number for number, other in enumerate(table.rows) if other[0] == marks)
                self.assertIn(lot, equal_marks(table))
            self.check(sorted(row for lot in equal_marks(table) for row in lot), list(range(len(table))))
            self.check(list(equal_marks(table)), sorted(equal_marks(table)))

    def test_coarser_rows_fit_more(self):
        dice = random.Random(6)
        for _ in range(60):
            table, other = drawn_table(dice), drawn_table(dice)
            columns = [name for name, _ in table.census.columns]
            for row, (second, _) in zip(range(len(table)), other.rows):
                parts = zip(columns, table.rows[row][0], second)
                wide = tuple(joined_mark(table.census, column, one, two) for column, one, two in parts)
                coarse = marked(table, row, wide)
                self.assertLessEqual(set(fitting_persons(table, row)), set(fitting_persons(coarse, row)))

    def test_no_person(self):
        table = sample_table()
        for name in anything() + ["dee", "age", "flu", 0]:
            self.check_raises(NoPerson, name, fits, table, name, 0)
            self.check_raises(NoPerson, name, fits, table, name, None)
            self.check_raises(NoPerson, name, fitting_rows, table, name)

    def test_no_row(self):
        table = sample_table()
        for row in anything() + [3, 60, "0", (0,), [0], -3]:
            self.check_raises(NoRow, row, fits, table, "ann", row)
            self.check_raises(NoRow, row, fitting_persons, table, row)
            self.check_raises(NoRow, row, marked, table, row, None)
        self.check_raises(NoRow, 0, fitting_persons, Table(table.census, ""), 0)


class Marked(CrowdCase):
    def test_one_row_changes(self):
        table = sample_table()
        wide = marked(table, 0, ((-2, 30), "all"))
        self.check(wide.text, joined("row -2..30 all flu", ROWS[1:]))
        self.assertEqual(wide.census, table.census)
        text = joined(ROWS[0], "row 1000000..1000000 pole cold", ROWS[2])
        self.check(marked(table, 1, ((1000000, 1000000), "pole")).text, text)
        self.check(marked(table, 2, ((-1000000, 0), "south")).rows[2], (((-1000000, 0), "south"), "flu"))
        self.check((table.text, table == sample_table()), (joined(ROWS), True))
        self.assertTrue(marked(table, 1, table.rows[1][0]) == table)

    def test_wrong_marks(self):
        table = sample_table()
        wrong = [[(1, 2), "all"], ((1, 2),), ((1, 2), "all", "all"), ("all", (1, 2)), (1, 2), "all", {(1, 2): "all"}]
        wrong += [(mark, "all") for mark in NO_LINE_MARKS + anything()]
        wrong += [((1, 2), kind) for kind in NO_KINDS + anything()]
        for marks in wrong + anything():
            self.check_raises(BadMarks, marks, marked, table, 0, marks)
        self.check((table.text, table.rows), (sample_table().text, sample_table().rows))
