"""Tables changed: what one mark, one row, one person more or less makes of what can be told."""

from itertools import combinations

from alikecrowds.errors import BadMark, BadMarks, BadName, BadSecret, BadValues, Full, Held, TooFew, TooMany, Unlike
from alikecrowds.hiding import check_many
from alikecrowds.registers import MOST_PERSONS, Register, person_number, register_text, scale_of
from alikecrowds.scales import Line, is_integer, is_lot_below, is_name, is_tuple_of, marks_stand, values_stand
from alikecrowds.tables import Table, check_row, most_rows, table_text
from alikecrowds.worlds import pairing_of

MOST_WIDENED = 10


def table_of(census, rows):
    """The table for this register with these rows, a list."""
    return Table(census, table_text(census, tuple(rows)))


def census_with(census, persons):
    """The register with these persons, all else the same."""
    return Register(register_text(census.columns, census.kinds, persons))


def with_mark(table, row, column, mark):
    """The table with this mark in this row and column, all else the same."""
    check_row(table, row)
    scale = scale_of(table.census, column)
    if not scale.is_mark(mark):
        raise BadMark(mark)
    rows = list(table.rows)
    marks, secret = rows[row]
    at = list(table.census.scales).index(column)
    rows[row] = (marks[:at] + (mark,) + marks[at + 1:], secret)
    return table_of(table.census, rows)


def without_row(table, row):
    """The table without this row."""
    check_row(table, row)
    return table_of(table.census, table.rows[:row] + table.rows[row + 1:])


def with_row(table, marks, secret):
    """The table with this row behind all others."""
    if not marks_stand(table.census.scales, marks):
        raise BadMarks(marks)
    if not is_name(secret):
        raise BadSecret(secret)
    if len(table) >= most_rows(table.census):
        raise Full(len(table))
    return table_of(table.census, table.rows + ((marks, secret),))


def with_person(table, name, values):
    """The table for the register with this person behind all others."""
    census = table.census
    if not is_name(name):
        raise BadName(name)
    if name in census.numbers:
        raise Held(name)
    if not values_stand(census.scales, values):
        raise BadValues(values)
    if len(census) >= MOST_PERSONS:
        raise Full(MOST_PERSONS)
    return Table(census_with(census, census.persons + ((name, values),)), table.text)


def without_person(table, name):
    """The table for the register without this person."""
    census = table.census
    person = person_number(census, name)
    if len(census) == len(table):
        raise TooFew(len(census))
    return Table(census_with(census, census.persons[:person] + census.persons[person + 1:]), table.text)


def pairs(table):
    """All (person, row) that can be, ascending."""
    pairing = pairing_of(table)
    return tuple([(person, row) for person in range(len(table.census)) for row in pairing.possible_rows(person)])


def pairs_but(ones, others):
    """All pairs of ones that are none of others."""
    known = set(others)
    return tuple([pair for pair in ones if pair not in known])


def idle_pairs(table):
    """(person, row) for all rows that fit a person, and cannot be theirs; ascending."""
    fitting = pairing_of(table).fitting
    fitted = [(person, row) for row, persons in enumerate(fitting) for person in persons]
    return pairs_but(sorted(fitted), pairs(table))


def check_alike(one, other):
    """Raises Unlike unless both tables have equal registers, and as many rows."""
    if one.census != other.census or len(one) != len(other):
        raise Unlike(None)


def changed(one, other):
    """(came, gone): the pairs of other that are none of one, and those of one that are none of other."""
    check_alike(one, other)
    before, behind = pairs(one), pairs(other)
    return (pairs_but(behind, before), pairs_but(before, behind))


def is_coarser(one, other):
    """Whether the rows of other have the secrets of those of one, and marks that cover all that theirs cover."""
    check_alike(one, other)
    for (marks, secret), (its, own) in zip(one.rows, other.rows):
        scales = list(one.census.scales.values())
        finer = [scale.is_finer(mark, wide) for scale, mark, wide in zip(scales, marks, its)]
        if secret != own or not all(finer):
            return False
    return True


class Widening:
    """What marks of one row in one column make of the rows that can be one person's.

    own is the mark of the row in this column; open_to has (number, value in this column) for
    each person whom the row fits in all other columns.
    """

    def __init__(self, table, person, row, column):
        census = table.census
        self.base = pairing_of(table)
        self.person = person
        self.row = row
        self.scale = scale_of(census, column)
        at = list(census.scales).index(column)
        marks = table.rows[row][0]
        self.own = marks[at]
        self.open_to = []
        for number, (_, known) in enumerate(census.persons):
            covered = [scale.covers(mark, value) for scale, mark, value in zip(census.scales.values(), marks, known)]
            if all(covered[:at] + covered[at + 1:]):
                self.open_to.append((number, known[at]))

    def rows_many(self, mark):
        """How many rows can be the person's with this mark, which covers all that the own one covers."""
        fitting = list(self.base.fitting)
        fitting[self.row] = [number for number, value in self.open_to if self.scale.covers(mark, value)]
        return len(self.base.widened(fitting).possible_rows(self.person))

    def amount(self, mark):
        """How much wider this mark is than the own one."""
        if isinstance(self.scale, Line):
            return self.scale.loss(mark) - self.scale.loss(self.own)
        return self.scale.ups[self.own].index(mark)

    def least_marks(self, many):
        """Some marks with which so many rows can be the person's, the least wide ones among them."""
        if isinstance(self.scale, Line):
            return self._least_stretches(many)
        return [mark for mark in self.scale.ups[self.own] if self.rows_many(mark) >= many]

    def _least_stretches(self, many):
        """For each low end that is enough with some high end the least such mark of a line."""
        low, high = self.own
        known = [value for _, value in self.open_to]
        lows = sorted(set([low] + [value for value in known if value < low]))
        highs = sorted(set([high] + [value for value in known if value > high]))
        found = []
        at = len(highs) - 1
        # With a lower low end a high end is enough that was enough before: at need not rise again.
        for end in lows[::-1]:
            if self.rows_many((end, highs[at])) >= many:
                while at > 0 and self.rows_many((end, highs[at - 1])) >= many:
                    at -= 1
                found.append((end, highs[at]))
        return found


def widening_of(table, name, many, row, column):
    """The widening of this mark for this person; raises what least_widening raises."""
    person = person_number(table.census, name)
    check_many(many)
    check_row(table, row)
    scale_of(table.census, column)
    return Widening(table, person, row, column)


def least_widening(table, name, many, row, column):
    """(amount, mark): by how much this mark has to be widened so that so many rows can be this person's."""
    widening = widening_of(table, name, many, row, column)
    return min([(widening.amount(mark), mark) for mark in widening.least_marks(many)], default=None)


def shows_widening(table, name, many, row, column, value):
    """Whether any value is what least_widening may return."""
    least = least_widening(table, name, many, row, column)
    if least is None:
        return value is None
    widening = widening_of(table, name, many, row, column)
    if not is_tuple_of(value, 2) or not is_integer(value[0]) or not widening.scale.is_mark(value[1]):
        return False
    amount, mark = value
    if not widening.scale.is_finer(widening.own, mark) or not amount == least[0] == widening.amount(mark):
        return False
    return widening.rows_many(mark) >= many


class Opening:
    """What the widest marks in some rows make of the rows that can be one person's."""

    def __init__(self, table, person):
        self.base = pairing_of(table)
        self.person = person
        self.persons = list(range(len(table.census)))

    def rows_many(self, lot):
        """How many rows can be the person's if these rows have the widest marks in all columns."""
        fitting = [self.persons if row in lot else fitted for row, fitted in enumerate(self.base.fitting)]
        return len(self.base.widened(fitting).possible_rows(self.person))


def opening_of(table, name, many):
    """The opening for this person; raises what least_rows raises."""
    person = person_number(table.census, name)
    check_many(many)
    if len(table) > MOST_WIDENED:
        raise TooMany(len(table))
    return Opening(table, person)


def least_rows(table, name, many):
    """(amount, lot): how many rows need the widest marks so that so many rows can be this person's."""
    opening = opening_of(table, name, many)
    rows = list(range(len(table)))
    for amount in range(len(rows) + 1):
        for lot in combinations(rows, amount):
            if opening.rows_many(lot) >= many:
                return (amount, lot)
    return None


def shows_rows(table, name, many, value):
    """Whether any value is what least_rows may return."""
    least = least_rows(table, name, many)
    if least is None:
        return value is None
    if not is_tuple_of(value, 2) or not is_integer(value[0]) or not is_lot_below(len(table), value[1]):
        return False
    amount, lot = value
    return amount == least[0] == len(lot) and opening_of(table, name, many).rows_many(lot) >= many
