"""Point 5: class Table, what BadTable tells, and table_text."""

from alikecrowds.errors import BadRows, BadTable
from alikecrowds.registers import Register
from alikecrowds.tables import Table, table_text
from samples import HEAD, PERSONS, ROWS, CrowdCase, anything, joined, sample_register, sample_table

LINE = Register("column age line\nperson ann 30\nperson bob 40")
HOME = Register("column home kinds\nkind home all none 9\nkind home b all 1\nperson ann all\nperson bob b")
GOOD = "row 1..2 flu"
NO_NAMES = ["", "abcdefghij123", "Flu", "a-b", "a_b", "a.b", "a\tb", "flu\t", "\tflu"]
NO_NUMBERS = ["", "x", "-", "+1", "007", "-0", "00", "-01", "1.0", "1e3", "1_0", "--1", "1-", "\t1", "1\t"]
NO_NUMBERS += ["1234567890", "9" * 5000, "None", "none", "1000001", "-1000001", "999999999"]


def many_persons(many):
    return Register(joined("column age line", [f"person p{number} {number}" for number in range(many)]))


class Reading(CrowdCase):
    def refuses(self, number, census, *parts):
        """The text is refused, and the line with this number is told."""
        self.check_number(BadTable, number, Table, census, joined(*parts))

    def test_properties(self):
        table = sample_table()
        first = (((-5, 31), "north"), "flu")
        self.check(table.rows, (first, (((31, 40), "all"), "cold"), (((31, 40), "all"), "flu")))
        self.check((table.text, len(table)), (joined(ROWS), 3))
        self.assertEqual(table.census, sample_register())
        census = sample_register()
        self.assertIs(Table(census, "").census, census)

    def test_no_rows(self):
        for census in (sample_register(), many_persons(0), many_persons(60)):
            table = Table(census, "")
            self.check((table.text, table.rows, len(table)), ("", (), 0))

    def test_no_string(self):
        for value in anything() + [0, 1, [GOOD], (GOOD,)]:
            if not isinstance(value, str):
                self.check_number(BadTable, 0, Table, LINE, value)

    def test_as_many_rows_as_persons(self):
        self.check(len(Table(LINE, joined(GOOD, GOOD))), 2)
        self.refuses(3, LINE, GOOD, GOOD, GOOD)
        self.refuses(1, many_persons(0), GOOD)
        self.refuses(2, many_persons(1), GOOD, GOOD)
        self.check(len(Table(many_persons(60), joined([GOOD] * 60))), 60)
        self.refuses(61, many_persons(60), [GOOD] * 61)
        self.refuses(3, LINE, GOOD, GOOD, "")

    def test_empty_lines(self):
        self.refuses(1, LINE, "", "")
        self.refuses(1, LINE, "", GOOD)
        self.refuses(2, LINE, GOOD, "")
        self.refuses(2, LINE, GOOD, "", GOOD)
        self.refuses(1, LINE, "\n\n\n")

    def test_the_first_wrong_line_is_told(self):
        self.refuses(2, LINE, GOOD, "row 2..1 flu", GOOD)
        self.refuses(1, LINE, "row 2..1 flu", "row 2..1 flu")

    def test_words(self):
        wrong = [" " + GOOD, GOOD + " ", "row  1..2 flu", "row 1..2  flu", "row\t1..2 flu", GOOD + "\t", " ", "\t"]
        wrong += ["row", "row flu", "row 1..2", "row 1..2 flu flu", "row 1..2 1..2 flu", "Row 1..2 flu", "1..2 flu"]
        wrong += ["rows 1..2 flu", "person 1..2 flu", "mark 1..2 flu", "row flu 1..2", "row 1 2 flu"]
        for line in wrong:
            self.refuses(1, LINE, line)
            self.refuses(2, LINE, GOOD, line)
        both = sample_register()
        for line in ("row 1..2 flu", "row all 1..2 flu", "row 1..2 all all flu", "row 1..2 all", "row 1..2 none flu"):
            self.refuses(1, both, line)

    def test_marks_of_lines(self):
        for low, high in ((1, 2), (2, 2), (-2, -1), (-1000000, 1000000), (0, 0), (1000000, 1000000), (-5, 5)):
            self.check(Table(LINE, f"row {low}..{high} flu").rows, ((((low, high),), "flu"),))
        wrong = ["2..1", "1", "1.2", "1...2", "1..2..3", "..", "1..", "..2", "1,2", "1-2", "(1,2)", "1..-1", "..1..2"]
        for mark in wrong:
            self.refuses(1, LINE, f"row {mark} flu")
        for number in NO_NUMBERS:
            self.refuses(1, LINE, f"row {number}..1000000 flu")
            self.refuses(1, LINE, f"row -1000000..{number} flu")

    def test_marks_of_kinds(self):
        for kind in ("all", "b"):
            self.check(Table(HOME, f"row {kind} flu").rows, (((kind,), "flu"),))
        for mark in ("none", "c", "", "All", "1..2", "home", "ann", "al"):
            self.refuses(1, HOME, f"row {mark} flu")

    def test_secrets(self):
        for secret in ("a", "7", "abcdefghij12", "none", "row", "flu"):
            self.check(Table(LINE, f"row 1..2 {secret}").rows, ((((1, 2),), secret),))
        for secret in NO_NAMES:
            self.refuses(1, LINE, f"row 1..2 {secret}")

    def test_signs_of_secrets(self):
        for code in range(32, 127):
            for secret in (chr(code), "a" + chr(code), "a" + chr(code) + "a"):
                rows = ((((1, 2),), secret),)
                if chr(code).isdigit() or chr(code).islower():
                    self.check(Table(LINE, f"row 1..2 {secret}").rows, rows)
                    self.check(table_text(LINE, rows), f"row 1..2 {secret}")
                else:
                    self.refuses(1, LINE, f"row 1..2 {secret}")
                    self.check_raises(BadRows, rows, table_text, LINE, rows)

    def test_rows_need_not_fit_anybody(self):
        self.check(Table(LINE, "row 999..1000 flu").rows, ((((999, 1000),), "flu"),))


class Equality(CrowdCase):
    def test_equal_registers_and_texts(self):
        self.assertTrue(sample_table() == sample_table())
        self.assertFalse(sample_table() != sample_table())
        self.assertTrue(Table(sample_register(), "") == Table(sample_register(), ""))

    def test_unlike_registers_or_texts(self):
        table = sample_table()
        more = Table(Register(joined(HEAD, PERSONS, "person dee 1 all")), table.text)
        swapped = Table(table.census, joined(ROWS[0], ROWS[2], ROWS[1]))
        for other in (more, swapped, Table(table.census, joined(ROWS[:2])), Table(table.census, "")):
            self.assertFalse(table == other)
            self.assertTrue(table != other)

    def test_nothing_else(self):
        table = sample_table()
        others = [table.text, table.rows, table.census, (table,), [table], 3, (table.census, table.text)]
        for other in others + [value for value in anything() if value != table]:
            self.assertFalse(table == other)
            self.assertTrue(table != other)
            self.assertFalse(other == table)

    def test_nothing_else_by_its_own_word(self):
        class Alike:
            census = sample_register()
            text = sample_table().text

        self.assertFalse(sample_table() == Alike())


class Writing(CrowdCase):
    def test_there_and_back(self):
        table = sample_table()
        self.check(table_text(table.census, table.rows), table.text)
        self.check(table_text(table.census, ()), "")
        wide = ((((-1000000, 1000000), "pole"), "7"), (((-1, -1), "all"), "abcdefghij12"))
        self.check(table_text(table.census, wide), "row -1000000..1000000 pole 7\nrow -1..-1 all abcdefghij12")
        self.check(Table(table.census, table_text(table.census, wide)).rows, wide)

    def test_how_many(self):
        row = (((1, 2),), "flu")
        self.check(table_text(LINE, (row, row)), joined(GOOD, GOOD))
        sixty = many_persons(60)
        self.check(table_text(sixty, (row,) * 60), joined([GOOD] * 60))
        for census, many in ((LINE, 3), (many_persons(0), 1), (sixty, 61)):
            rows = (row,) * many
            self.check_raises(BadRows, rows, table_text, census, rows)

    def test_wrong_rows(self):
        marks = ((1, 2), "all")
        row = (marks, "flu")
        wrong = [row, [row], (list(row),), (row, None), (None, row), (row, list(row)), None, "row 1..2 all flu", {}]
        wrong += [("row 1..2 all flu",), ((list(marks), "flu"),), ((marks,),), ((marks, "flu", "flu"),)]
        wrong += [((((1, 2),), "flu"),), ((marks + ("all",), "flu"),), ((("all", (1, 2)), "flu"),), (((), "flu"),)]
        wrong += [((marks, secret),) for secret in NO_NAMES + [None, 7, True, ["flu"], ("flu",), {}]]
        no_marks = [[1, 2], (1,), (1, 2, 3), (2, 1), (True, 2), (0, True), "1..2", (1, None), ("1", "2"), (-1000001, 1)]
        no_marks += [(1, 1000001), None, 1, {}]
        wrong += [(((mark, "all"), "flu"),) for mark in no_marks] + [(("flu", marks),)]
        no_kinds = ["none", "", None, 0, True, ["all"], ("all",), (1, 2), {"all": 1}]
        wrong += [((((1, 2), kind), "flu"),) for kind in no_kinds]
        for rows in wrong + [value for value in anything() if value != ()]:
            self.check_raises(BadRows, rows, table_text, sample_register(), rows)
