"""Published tables: rows with coarser marks, and whom each row fits."""

from alikecrowds.errors import BadMark, BadMarks, BadRows, BadTable, BadValue, BadValues, NoRow
from alikecrowds.registers import person_number, scale_of
from alikecrowds.scales import is_name, is_number_below, is_tuple_of, marks_stand

MOST_ROWS = 60


class Table:
    """What is published for a register, as this text tells it."""

    def __init__(self, census, text):
        self.census = census
        self.text = text
        self.rows = rows_in(census, text)

    def __eq__(self, other):
        return isinstance(other, Table) and self.census == other.census and self.text == other.text

    def __len__(self):
        return len(self.rows)


def rows_in(census, text):
    """The rows that a text of a table writes; raises BadTable."""
    if not isinstance(text, str):
        raise BadTable(0)
    lines = text.split("\n") if text else []
    rows = []
    for number, line in enumerate(lines, start=1):
        row = row_in(census, line)
        if number > most_rows(census) or not is_row(census, row):
            raise BadTable(number)
        rows.append(row)
    return tuple(rows)


def row_in(census, line):
    """The row that a line writes: None if it has not its form."""
    words = line.split(" ")
    marks = marks_in(census, words[1:-1])
    return None if words[0] != "row" or marks is None else (marks, words[-1])


def marks_in(census, words):
    """The marks that these words write: None if they are not as many as the columns."""
    if len(words) != len(census.scales):
        return None
    return tuple([scale.mark_in(word) for scale, word in zip(census.scales.values(), words)])


def most_rows(census):
    """How many rows a table for this register may have."""
    return min(MOST_ROWS, len(census))


def is_row(census, value):
    """Whether any value can be a row of a table for this register."""
    if not is_tuple_of(value, 2):
        return False
    marks, secret = value
    return marks_stand(census.scales, marks) and is_name(secret)


def table_text(census, rows):
    """The text of the table with these rows."""
    if not isinstance(rows, tuple) or len(rows) > most_rows(census):
        raise BadRows(rows)
    if not all([is_row(census, row) for row in rows]):
        raise BadRows(rows)
    lines = []
    for marks, secret in rows:
        words = [scale.mark_word(mark) for scale, mark in zip(census.scales.values(), marks)]
        lines.append(" ".join(["row"] + words + [secret]))
    return "\n".join(lines)


def scale_of_marks(census, column, marks):
    """The scale of this column; raises NoColumn, and BadMark for the first of marks that is none."""
    scale = scale_of(census, column)
    for mark in marks:
        if not scale.is_mark(mark):
            raise BadMark(mark)
    return scale


def is_mark(census, column, value):
    """Whether any value is a mark of this column."""
    return scale_of(census, column).is_mark(value)


def covers(census, column, mark, value):
    """Whether the mark covers the value."""
    scale = scale_of_marks(census, column, (mark,))
    if not scale.is_value(value):
        raise BadValue(value)
    return scale.covers(mark, value)


def is_finer(census, column, one, other):
    """Whether other covers all values that one covers."""
    return scale_of_marks(census, column, (one, other)).is_finer(one, other)


def joined_mark(census, column, one, other):
    """The finest mark that covers all that one and other cover."""
    return scale_of_marks(census, column, (one, other)).joined(one, other)


def common_mark(census, column, one, other):
    """The mark that covers just what both cover, None if that is nothing."""
    return scale_of_marks(census, column, (one, other)).common(one, other)


def least_mark(census, column, values):
    """The finest mark that covers all these values."""
    scale = scale_of(census, column)
    if not isinstance(values, tuple) or not values or not all([scale.is_value(value) for value in values]):
        raise BadValues(values)
    return scale.least(values)


def check_row(table, row):
    """Raises NoRow unless row is the number of a row."""
    if not is_number_below(len(table), row):
        raise NoRow(row)


def row_fits(table, person, row):
    """Whether the row fits the person; both are numbers."""
    census = table.census
    values = census.persons[person][1]
    marks = table.rows[row][0]
    return all([scale.covers(mark, value) for scale, mark, value in zip(census.scales.values(), marks, values)])


def fits(table, name, row):
    """Whether the row fits the person."""
    person = person_number(table.census, name)
    check_row(table, row)
    return row_fits(table, person, row)


def fitting_rows(table, name):
    """The numbers of the rows that fit the person."""
    person = person_number(table.census, name)
    return tuple([row for row in range(len(table)) if row_fits(table, person, row)])


def fitting_persons(table, row):
    """The numbers of the persons whom the row fits."""
    check_row(table, row)
    return tuple([person for person in range(len(table.census)) if row_fits(table, person, row)])


def fits_many(table):
    """How many pairs of a person and a row fit."""
    return sum([len(fitting_persons(table, row)) for row in range(len(table))])


def equal_marks(table):
    """All lots of rows that have the same marks."""
    lots = {}
    for row, (marks, _) in enumerate(table.rows):
        lots.setdefault(marks, []).append(row)
    return tuple([tuple(lot) for lot in lots.values()])


def marked(table, row, marks):
    """The table with these marks in this row, all else the same."""
    check_row(table, row)
    if not marks_stand(table.census.scales, marks):
        raise BadMarks(marks)
    rows = list(table.rows)
    rows[row] = (marks, rows[row][1])
    return Table(table.census, table_text(table.census, tuple(rows)))
