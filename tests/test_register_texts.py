"""Point 4: class Register, and what BadRegister tells."""

from alikecrowds.errors import BadRegister
from alikecrowds.registers import Register
from alikecrowds.tables import Table
from samples import HEAD, PERSONS, CrowdCase, anything, joined, sample_register

LINE = "column age line"
KINDS = "column home kinds"
TOP = "kind home all none 9"
TWELVE = "abcdefghij12"
NO_NAMES = ["", "abcdefghij123", "Ann", "a-b", "a_b", "a.b", "a\tb", "ann\t", "\tann", "ann,"]
NO_NUMBERS = [
    "", "x", "-", "+1", "007", "-0", "00", "-01", "1.0", "1e3", "0x1", "1_0", "--1", "1-", "- 1", "\t1", "1\t",
    "none", "1234567890", "-1234567890", "9" * 5000, "None", "True",
]


class ReadingCase(CrowdCase):
    def reads(self, *parts):
        """The text can be read, and back come all its properties."""
        text = joined(*parts)
        census = Register(text)
        self.check(census.text, text)
        self.check(len(census), len(census.persons))
        return census

    def refuses(self, number, *parts):
        """The text is refused, and the line with this number is told."""
        self.check_number(BadRegister, number, Register, joined(*parts))


class Reading(ReadingCase):
    def test_properties(self):
        census = self.reads(HEAD, PERSONS)
        self.check(census.columns, (("age", "line"), ("home", "kinds")))
        kinds = (("home", "all", None, 9), ("home", "north", "all", 4))
        kinds += (("home", "pole", "north", 0), ("home", "south", "all", 1))
        self.check(census.kinds, kinds)
        self.check(census.persons, (("ann", (31, "pole")), ("bob", (-2, "north")), ("cid", (40, "south"))))
        self.check(len(census), 3)

    def test_least_registers(self):
        census = self.reads("column a line")
        self.check((census.columns, census.kinds, census.persons), ((("a", "line"),), (), ()))
        self.check(len(census), 0)
        census = self.reads("column a kinds", "kind a b none 0")
        self.check(census.columns, (("a", "kinds"),))
        self.check((census.kinds, census.persons), ((("a", "b", None, 0),), ()))

    def test_values_stand_in_the_sequence_of_the_columns(self):
        census = self.reads("column a kinds", "column b line", "column c kinds", "column d line",
                            "kind c 7 none 1", "kind a 5 none 2", "kind c 8 7 0", "kind a 6 5 2", "person p 6 5 8 -6")
        self.check(census.persons, (("p", ("6", 5, "8", -6)),))
        kinds = (("c", "7", None, 1), ("a", "5", None, 2), ("c", "8", "7", 0), ("a", "6", "5", 2))
        self.check(census.kinds, kinds)

    def test_no_string(self):
        for value in anything() + [0, 1, [LINE], (LINE,)]:
            if not isinstance(value, str):
                self.check_number(BadRegister, 0, Register, value)

    def test_empty_lines(self):
        self.refuses(1, "")
        self.refuses(1, "", LINE)
        self.refuses(2, LINE, "")
        self.refuses(2, LINE, "", "person ann 1")
        self.refuses(3, LINE, "person ann 1", "")
        self.refuses(1, "\n\n")

    def test_blanks_and_tabs(self):
        for wrong in (" " + LINE, LINE + " ", "column  age line", "column\tage line", LINE + "\t", " ", "\t"):
            self.refuses(1, wrong)
        for wrong in (" person ann 1", "person ann 1 ", "person  ann 1", "person ann  1", "person\tann 1"):
            self.refuses(2, LINE, wrong)
        for wrong in ("kind home  all none 9", TOP + " ", " " + TOP, "kind home all none\t9"):
            self.refuses(2, KINDS, wrong)

    def test_other_words(self):
        for wrong in ("columns age line", "Column age line", "row", "line", "column", "kind", "person", "none"):
            self.refuses(1, wrong)
        for wrong in ("persons ann 1", "row 1..2 flu", "kinds home all none 9", "x"):
            self.refuses(2, LINE, wrong)

    def test_too_few_and_too_many_words(self):
        for wrong in ("column age", "column age line line", "column line", "column age line 1"):
            self.refuses(1, wrong)
        for wrong in ("kind home all none", "kind home all none 9 9", "kind home all 9", "kind home", "kind"):
            self.refuses(2, KINDS, wrong)
        for wrong in ("person ann", "person ann 1 2", "person 1", "person"):
            self.refuses(2, LINE, wrong)
        self.refuses(3, LINE, "column size line", "person ann 1")
        self.refuses(3, LINE, "column size line", "person ann 1 2 3")

    def test_the_first_wrong_line_is_told(self):
        self.refuses(2, LINE, "person ann x", "person bob x", "")
        self.refuses(3, KINDS, TOP, "kind home b all 10", "kind home c all 10")


class Signs(ReadingCase):
    def test_signs_of_names(self):
        for code in range(32, 127):
            sign = chr(code)
            for name in (sign, "a" + sign, sign + "a", "a" + sign + "a"):
                if sign.isdigit() or sign.islower():
                    self.reads(f"column {name} line")
                    self.reads(KINDS, f"kind home {name} none 9", f"person {name} {name}")
                else:
                    self.refuses(1, f"column {name} line")
                    self.refuses(2, KINDS, f"kind home {name} none 9")
                    self.refuses(2, LINE, f"person {name} 1")

    def test_signs_of_numbers(self):
        for code in range(32, 127):
            sign = chr(code)
            for word in ("1" + sign, "1" + sign + "1"):
                if sign.isdigit():
                    self.check(self.reads(LINE, f"person ann {word}").persons, (("ann", (int(word),)),))
                    self.reads(KINDS, f"kind home all none {word}")
                else:
                    self.refuses(2, LINE, f"person ann {word}")
                    self.refuses(2, KINDS, f"kind home all none {word}")


class Columns(ReadingCase):
    def test_words_of_columns(self):
        for wrong in ("column age Line", "column age kind", "column age lines", "column age none", "column age "):
            self.refuses(1, wrong)

    def test_names(self):
        for name in ("a", "7", TWELVE, "none", "line", "kinds", "column", "0123456789az"):
            self.check(self.reads(f"column {name} line").columns, ((name, "line"),))
        for name in NO_NAMES:
            self.refuses(1, f"column {name} line")
        self.refuses(2, LINE, LINE)
        self.refuses(3, LINE, "column size line", "column age kinds")

    def test_at_most_four(self):
        four = [f"column c{number} line" for number in range(4)]
        self.check(len(self.reads(four).columns), 4)
        self.refuses(5, four, "column e line")
        self.refuses(5, four, "column e kinds", "kind e x none 0")
        kinds = [f"column c{number} kinds" for number in range(4)]
        tops = [f"kind c{number} all none {number}" for number in range(4)]
        self.check(len(self.reads(kinds, tops, "person p all all all all").kinds), 4)
        self.refuses(5, kinds, "column e line")

    def test_none_behind_kinds_and_persons(self):
        self.refuses(3, KINDS, TOP, LINE)
        self.refuses(3, KINDS, TOP, "column town kinds", "kind town all none 9")
        self.refuses(3, LINE, "person ann 1", "column size line")
        self.refuses(4, KINDS, TOP, "person ann all", LINE)


class Kinds(ReadingCase):
    def test_names(self):
        for name in ("a", "7", TWELVE, "home", "kinds", "line"):
            self.check(self.reads(KINDS, f"kind home {name} none 9").kinds, (("home", name, None, 9),))
        for name in NO_NAMES + ["none"]:
            self.refuses(2, KINDS, f"kind home {name} none 9")
            self.refuses(3, KINDS, TOP, f"kind home {name} all 9")
        self.refuses(3, KINDS, TOP, "kind home all all 9")
        self.refuses(5, KINDS, TOP, "kind home a all 9", "kind home b all 9", "kind home a b 9")

    def test_one_name_in_two_columns(self):
        census = self.reads("column a kinds", "column b kinds", "kind a x none 1", "kind b x none 2", "person x x x")
        self.check(census.kinds, (("a", "x", None, 1), ("b", "x", None, 2)))

    def test_columns_of_kinds(self):
        self.refuses(1, TOP)
        self.refuses(2, LINE, "kind age all none 9")
        for column in ("town", "", "none", "Home", "hom"):
            self.refuses(2, KINDS, f"kind {column} all none 9")

    def test_kinds_above(self):
        for wrong in ("all", "top", "", "None", "home"):
            self.refuses(2, KINDS, f"kind home all {wrong} 9")
        for wrong in ("none", "b", "c", "", "home", "All"):
            self.refuses(3, KINDS, TOP, f"kind home b {wrong} 9", "kind home c all 9")
        self.refuses(4, KINDS, "column town kinds", TOP, "kind town x all 9")
        self.refuses(5, KINDS, "column town kinds", TOP, "kind town x none 9", "kind town y all 9")
        self.reads(KINDS, TOP, "kind home b all 9", "kind home c b 9", "kind home d b 9", "kind home e all 9")

    def test_losses(self):
        for loss in (0, 1, 10, 999999, 1000000):
            self.check(self.reads(KINDS, f"kind home all none {loss}").kinds, (("home", "all", None, loss),))
        for loss in NO_NUMBERS + ["-1", "1000001", "999999999"]:
            self.refuses(2, KINDS, f"kind home all none {loss}")
            self.refuses(3, KINDS, "kind home all none 1000000", f"kind home b all {loss}")

    def test_no_loss_above_that_of_the_kind_above(self):
        self.reads(KINDS, TOP, "kind home b all 9", "kind home c b 8", "kind home d c 8", "kind home e all 9")
        self.refuses(3, KINDS, TOP, "kind home b all 10")
        self.refuses(4, KINDS, TOP, "kind home b all 5", "kind home c b 6")
        self.refuses(3, KINDS, "kind home all none 0", "kind home b all 1")

    def test_at_most_sixty(self):
        sixty = ["kind home k0 none 9"] + [f"kind home k{number} k0 9" for number in range(1, 60)]
        self.check(len(self.reads(KINDS, sixty).kinds), 60)
        self.refuses(62, KINDS, sixty, "kind home more k0 9")
        other = [line.replace("home", "town") for line in sixty]
        mixed = [line for pair in zip(sixty, other) for line in pair]
        census = self.reads(KINDS, "column town kinds", mixed, "person ann k59 k0")
        self.check(len(census.kinds), 120)
        self.refuses(123, KINDS, "column town kinds", mixed, "kind town more k0 9")
        deep = ["kind home k0 none 9"] + [f"kind home k{number} k{number - 1} 9" for number in range(1, 60)]
        self.reads(KINDS, deep)
        self.refuses(62, KINDS, deep, "kind home k60 k59 9")

    def test_none_behind_persons(self):
        self.refuses(4, KINDS, TOP, "person ann all", "kind home b all 9")

    def test_a_column_without_kinds(self):
        self.refuses(2, KINDS)
        self.refuses(3, LINE, KINDS)
        self.refuses(4, KINDS, "column town kinds", TOP)
        self.refuses(5, KINDS, "column town kinds", TOP, "kind home b all 9")
        self.refuses(2, KINDS, "")
        self.refuses(3, KINDS, "column town kinds", "")


class Persons(ReadingCase):
    def test_names(self):
        for name in ("a", "7", TWELVE, "none", "age", "person"):
            self.check(self.reads(LINE, f"person {name} 5").persons, ((name, (5,)),))
        for name in NO_NAMES:
            self.refuses(2, LINE, f"person {name} 5")
        self.refuses(3, LINE, "person ann 5", "person ann 6")
        self.refuses(4, LINE, "person ann 5", "person bob 5", "person ann 5")
        self.reads(KINDS, TOP, "person home all", "person all all", "person none all")

    def test_values_of_lines(self):
        for value in (-1000000, -999999, -1, 0, 1, 7, 10, 1000000):
            self.check(self.reads(LINE, f"person ann {value}").persons, (("ann", (value,)),))
        for value in NO_NUMBERS + ["1000001", "-1000001", "999999999", "-999999999", "1..2"]:
            self.refuses(2, LINE, f"person ann {value}")
            self.refuses(3, LINE, "column size line", f"person ann 1 {value}")

    def test_values_of_kinds(self):
        for kind in ("all", "north", "pole", "south"):
            census = self.reads(HEAD, f"person ann 3 {kind}")
            self.check(census.persons, (("ann", (3, kind)),))
        for kind in ("none", "east", "", "All", "age", "home", "3", "al"):
            self.refuses(7, HEAD, f"person ann 3 {kind}")
        self.refuses(7, HEAD, "person ann all 3")
        self.refuses(5, KINDS, "column town kinds", TOP, "kind town x none 1", "person ann x all")

    def test_at_most_sixty(self):
        sixty = [f"person p{number} {number}" for number in range(60)]
        self.check(len(self.reads(LINE, sixty)), 60)
        self.check(self.reads(LINE, sixty).persons[59], ("p59", (59,)))
        self.refuses(62, LINE, sixty, "person more 1")

    def test_not_ahead_of_columns_and_kinds(self):
        self.refuses(1, "person ann")
        self.refuses(1, "person ann 1", LINE)
        self.refuses(2, KINDS, "person ann all")
        self.refuses(3, LINE, KINDS, "person ann 1 all")
        self.refuses(4, KINDS, "column town kinds", TOP, "person ann all all")
        self.refuses(4, KINDS, "column town kinds", TOP, "person ann all")


class Equality(CrowdCase):
    def test_equal_texts(self):
        self.assertTrue(sample_register() == sample_register())
        self.assertFalse(sample_register() != sample_register())

    def test_unlike_texts(self):
        census = sample_register()
        swapped = Register(joined(HEAD[:4], HEAD[5], HEAD[4], PERSONS))
        for other in (Register(joined(HEAD)), Register(LINE), swapped, Register(joined(HEAD, PERSONS[:2]))):
            self.assertFalse(census == other)
            self.assertTrue(census != other)

    def test_nothing_else(self):
        census = sample_register()
        others = [census.text, census.persons, (census,), [census], Table(census, ""), 3, len(census)]
        for other in others + [value for value in anything() if value != census]:
            self.assertFalse(census == other)
            self.assertTrue(census != other)
            self.assertFalse(other == census)
        self.assertFalse(census == Table(census, ""))

    def test_nothing_else_by_its_own_word(self):
        class Alike:
            text = sample_register().text

        self.assertFalse(sample_register() == Alike())
