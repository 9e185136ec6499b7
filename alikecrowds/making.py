"""Making tables: everybody is hidden by the crowd whose marks they share."""

from alikecrowds.errors import BadCrowd, BadCrowds, BadLot, BadMarks, BadNumber, BadSecrets, BadSequence, TooMany
from alikecrowds.registers import person_number
from alikecrowds.scales import is_ascending, is_integer, is_lot_below, is_name, is_number_below
from alikecrowds.scales import is_tuple_of, marks_stand
from alikecrowds.tables import Table, table_text

MOST_LEAST = 60
MOST_PARTED = 10


def check_marks(census, marks):
    """Raises BadMarks unless these are marks for this register."""
    if not marks_stand(census.scales, marks):
        raise BadMarks(marks)


def least_marks(census, persons):
    """The least marks that cover all these persons, one at least; these are numbers."""
    known = [census.persons[person][1] for person in persons]
    columns = list(zip(*known))
    return tuple([scale.least(column) for scale, column in zip(census.scales.values(), columns)])


def are_marks(census, value):
    """Whether any value is marks for this register."""
    return marks_stand(census.scales, value)


def own_marks(census, name):
    """The least marks that cover the person's values."""
    return least_marks(census, (person_number(census, name),))


def joined_marks(census, one, other):
    """The least marks that both are below."""
    check_marks(census, one)
    check_marks(census, other)
    return tuple([scale.joined(mark, its) for scale, mark, its in zip(census.scales.values(), one, other)])


def common_marks(census, one, other):
    """The greatest marks below both, None if there are none."""
    check_marks(census, one)
    check_marks(census, other)
    found = [scale.common(mark, its) for scale, mark, its in zip(census.scales.values(), one, other)]
    return None if None in found else tuple(found)


def are_below(census, one, other):
    """Whether these marks are below other ones."""
    return all([scale.is_finer(mark, its) for scale, mark, its in zip(census.scales.values(), one, other)])


def marks_below(census, one, other):
    """Whether one is below other."""
    check_marks(census, one)
    check_marks(census, other)
    return are_below(census, one, other)


def marks_loss(census, marks):
    """The loss of these marks."""
    return sum([scale.loss(mark) for scale, mark in zip(census.scales.values(), marks)])


def loss_of_marks(census, marks):
    """The loss of these marks."""
    check_marks(census, marks)
    return marks_loss(census, marks)


def crowd_marks(census, persons):
    """The least marks that cover all these persons."""
    if not is_lot_below(len(census), persons) or len(persons) == 0:
        raise BadCrowd(persons)
    return least_marks(census, persons)


def stands_once(census, persons):
    """Whether these are the numbers of all persons, each once."""
    return sorted(persons) == list(range(len(census)))


def are_crowds(census, value):
    """Whether any value is crowds."""
    if not isinstance(value, tuple) or not all([is_lot_below(len(census), crowd) for crowd in value]):
        return False
    placed = [person for crowd in value for person in crowd]
    return () not in value and is_ascending(value) and stands_once(census, placed)


def check_crowds(census, crowds):
    """Raises BadCrowds unless these are crowds for this register."""
    if not are_crowds(census, crowds):
        raise BadCrowds(crowds)


def least_crowd(crowds):
    """The length of the shortest of these crowds, 0 if there are none."""
    if not isinstance(crowds, tuple) or not all([isinstance(crowd, tuple) for crowd in crowds]):
        raise BadCrowds(crowds)
    if () in crowds:
        raise BadCrowds(crowds)
    return min([len(crowd) for crowd in crowds], default=0)


def marks_by_person(census, crowds):
    """The marks of the crowd of each person."""
    found = {}
    for crowd in crowds:
        marks = least_marks(census, crowd)
        for person in crowd:
            found[person] = marks
    return [found[person] for person in range(len(census))]


def check_secrets(census, secrets):
    """Raises BadSecrets unless this is a tuple with a secret for each person."""
    if not is_tuple_of(secrets, len(census)) or not all([is_name(secret) for secret in secrets]):
        raise BadSecrets(secrets)


def table_with(census, secrets, marks, sequence):
    """The table with a row for each person, in this sequence; raises BadSequence."""
    many = len(census)
    if not is_tuple_of(sequence, many) or not all([is_number_below(many, person) for person in sequence]):
        raise BadSequence(sequence)
    if not stands_once(census, sequence):
        raise BadSequence(sequence)
    rows = tuple([(marks[person], secrets[person]) for person in sequence])
    return Table(census, table_text(census, rows))


def made_table(census, secrets, crowds, sequence):
    """The table with a row for each person, in this sequence, with the marks of their crowd."""
    check_secrets(census, secrets)
    check_crowds(census, crowds)
    return table_with(census, secrets, marks_by_person(census, crowds), sequence)


def marked_table(census, secrets, marks, sequence):
    """The table with a row for each person, in this sequence, with these marks."""
    check_secrets(census, secrets)
    if not is_tuple_of(marks, len(census)):
        raise BadMarks(marks)
    for person, own in enumerate(marks):
        if not marks_stand(census.scales, own) or not are_below(census, least_marks(census, (person,)), own):
            raise BadMarks(marks)
    return table_with(census, secrets, marks, sequence)


def is_made(table, crowds):
    """Whether made_table could have made this table with these crowds."""
    check_crowds(table.census, crowds)
    return sorted([marks for marks, _ in table.rows]) == sorted(marks_by_person(table.census, crowds))


def widened(table, rows, marks):
    """The table in which the marks of each of these rows are joined with these."""
    census = table.census
    if not is_lot_below(len(table), rows):
        raise BadLot(rows)
    check_marks(census, marks)
    found = []
    for row, (own, secret) in enumerate(table.rows):
        found.append((joined_marks(census, own, marks) if row in rows else own, secret))
    return Table(census, table_text(census, tuple(found)))


def table_loss(table):
    """The sum of the losses of the marks of all rows."""
    return sum([marks_loss(table.census, marks) for marks, _ in table.rows])


def crowd_loss(census, crowd):
    """The loss of this crowd: that of its marks for each of its persons."""
    return marks_loss(census, least_marks(census, crowd)) * len(crowd)


def persons_in_lot(lot):
    """The persons of a lot, which is the sum of their bits: 1, 2, 4 and so on."""
    return tuple([person for person in range(lot.bit_length()) if lot & (1 << person)])


def lot_losses(census, least):
    """The losses of all crowds that least_crowds needs, by their lots."""
    found = {}
    for lot in range(1, 1 << len(census)):
        persons = persons_in_lot(lot)
        # Greater crowds can be parted into two: none of them has less loss than both.
        if least <= len(persons) < 2 * least:
            found[lot] = crowd_loss(census, persons)
    return found


def best_partings(losses, lots):
    """For each lot below lots (loss, lot): the least loss of crowds, and one of these; None without crowds."""
    found = [(0, 0)]
    for lot in range(1, lots):
        first = lot & -lot
        crowds = [crowd for crowd in losses if crowd & lot == crowd and crowd & first]
        ways = [(losses[crowd] + found[lot - crowd][0], crowd) for crowd in crowds if found[lot - crowd] is not None]
        found.append(min(ways, default=None))
    return found


def check_least(census, least):
    """Raises BadNumber unless least is a size of crowds, TooMany if there are too many persons."""
    if not is_integer(least) or not 1 <= least <= MOST_LEAST:
        raise BadNumber(least)
    if len(census) > MOST_PARTED:
        raise TooMany(len(census))


def least_crowds(census, least):
    """(loss, crowds) with the least loss of crowds of so many persons at least; None if there are none."""
    check_least(census, least)
    lot = (1 << len(census)) - 1
    parted = best_partings(lot_losses(census, least), lot + 1)
    if parted[lot] is None:
        return None
    loss = parted[lot][0]
    crowds = []
    while lot > 0:
        crowd = parted[lot][1]
        crowds.append(persons_in_lot(crowd))
        lot -= crowd
    return (loss, tuple(crowds))


def shows_least_crowds(census, least, value):
    """Whether any value is what least_crowds may return."""
    found = least_crowds(census, least)
    if found is None:
        return value is None
    if not is_tuple_of(value, 2) or not is_integer(value[0]) or not are_crowds(census, value[1]):
        return False
    loss, crowds = value
    if not all([len(crowd) >= least for crowd in crowds]):
        return False
    return loss == found[0] == sum([crowd_loss(census, crowd) for crowd in crowds])
