"""What can still be told of the others if some secrets are out.

As many further rows as persons are out in each world are put behind the rows of the table,
and fit all of whom no secret is told. Then nobody is out of all these rows; a lot of them
that has none of the further ones is a lot of rows, and what is left beside any other one
is a lot of persons: all of whom a secret is told.
"""

from itertools import combinations

from alikecrowds.errors import BadNames, BadTold, BadWorld, NoWorld, TooMany
from alikecrowds.hiding import secrets_in
from alikecrowds.registers import person_number
from alikecrowds.scales import is_ascending, is_lot_below, is_name, is_tuple_of
from alikecrowds.tables import check_row, row_fits
from alikecrowds.worlds import Pairing, is_world

MOST_TELLING = 10


class Known:
    """What is told of persons, by their numbers, and which rows fit whom under it.

    told is a tuple of pairs (name, secret); fitting has for each row the persons whom it fits.
    """

    def __init__(self, table, told):
        census = table.census
        self.many = len(table)
        self.persons = list(range(len(census)))
        self.secrets = {census.numbers[name]: secret for name, secret in told}
        self.fitting = []
        for row, (_, secret) in enumerate(table.rows):
            open_to = [person for person in self.persons if self.secrets.get(person, secret) == secret]
            self.fitting.append([person for person in open_to if row_fits(table, person, row)])

    def has_row(self, person):
        """Whether a secret is told of the person: so some row is theirs."""
        return self.secrets.get(person, "") != ""

    def pairing(self):
        """The pairing of these rows, and of the further ones behind them."""
        others = [person for person in self.persons if not self.has_row(person)]
        return Pairing(self.fitting + [others] * (len(self.persons) - self.many))

    def persons_in(self, lot):
        """The persons of a lot of rows."""
        return [person for person in self.persons if any([person in self.fitting[row] for row in lot])]

    def rows_in(self, lot):
        """The rows of a lot of persons."""
        rows = range(self.many)
        return [row for row in rows if any([person in self.fitting[row] for person in lot])]

    def is_lot_of_rows(self, value):
        """Whether any value is a lot of rows."""
        return is_lot_below(self.many, value) and len(value) > 0

    def is_lot_of_persons(self, value):
        """Whether any value is a lot of persons."""
        if not is_lot_below(len(self.persons), value) or len(value) == 0:
            return False
        return all([self.has_row(person) for person in value])

    def lot_told(self, pairing, lot):
        """("rows", lot) or ("persons", lot): what a lot of these and of the further rows tells."""
        if lot[-1] < self.many:
            return ("rows", lot)
        fitted = [person for person in self.persons if any([person in pairing.fitting[row] for row in lot])]
        return ("persons", tuple([person for person in self.persons if person not in fitted]))

    def is_reason(self, word, value):
        """Whether the word and any value are a reason why there is no world."""
        if word == "rows":
            return self.is_lot_of_rows(value) and len(self.persons_in(value)) < len(value)
        return word == "persons" and self.is_lot_of_persons(value) and len(self.rows_in(value)) < len(value)

    def shuts_out(self, word, value, person, row):
        """Whether the word and any value show that the row, which fits the person, cannot be theirs."""
        if word == "rows":
            if not self.is_lot_of_rows(value) or row in value:
                return False
            persons = self.persons_in(value)
            return len(persons) == len(value) and person in persons
        if word != "persons" or not self.is_lot_of_persons(value) or person in value:
            return False
        rows = self.rows_in(value)
        return len(rows) == len(value) and row in rows


def are_names(table, value):
    """Whether any value is an ascending tuple of names of persons, none or more."""
    if not isinstance(value, tuple) or not all([isinstance(name, str) for name in value]):
        return False
    return all([name in table.census.numbers for name in value]) and is_ascending(value)


def is_told(table, value):
    """Whether any value is told for this table."""
    if not isinstance(value, tuple) or not all([is_tuple_of(pair, 2) for pair in value]):
        return False
    if not are_names(table, tuple([name for name, _ in value])):
        return False
    return all([secret == "" or is_name(secret) for _, secret in value])


def check_told(table, told):
    """Raises BadTold unless this is told for this table."""
    if not is_told(table, told):
        raise BadTold(told)


def check_world(table, world):
    """Raises BadWorld unless this is a world."""
    if not is_world(table, world):
        raise BadWorld(world)


def secret_in(table, world, person):
    """The secret of the person in this world, "" for out."""
    return table.rows[world.index(person)][1] if person in world else ""


def is_kept(table, told, world):
    """Whether this world keeps what is told."""
    numbers = table.census.numbers
    return all([secret_in(table, world, numbers[name]) == secret for name, secret in told])


def keeps(table, told, world):
    """Whether this world keeps what is told."""
    check_told(table, told)
    check_world(table, world)
    return is_kept(table, told, world)


def world_told(table, told):
    """("world", world) with any world that keeps what is told, or any reason why there is none."""
    check_told(table, told)
    known = Known(table, told)
    pairing = known.pairing()
    if pairing.torn is not None:
        return known.lot_told(pairing, pairing.torn)
    return ("world", pairing.world()[:len(table)])


def shows_world_told(table, told, value):
    """Whether any value is what world_told may return."""
    check_told(table, told)
    if not is_tuple_of(value, 2):
        return False
    word, paper = value
    if word == "world":
        return is_world(table, paper) and is_kept(table, told, paper)
    return Known(table, told).is_reason(word, paper)


def told_pairing(known):
    """The pairing under what is told; raises NoWorld."""
    pairing = known.pairing()
    if pairing.torn is not None:
        raise NoWorld(known.lot_told(pairing, pairing.torn))
    return pairing


def possible_told(table, told, name, row):
    """Whether this row can be this person's, with a world, or with a lot that shuts it out."""
    check_told(table, told)
    person = person_number(table.census, name)
    check_row(table, row)
    known = Known(table, told)
    pairing = told_pairing(known)
    if person not in known.fitting[row]:
        return ("cannot", "fit")
    world = pairing.world_with(person, row)
    if world is None:
        return ("cannot",) + known.lot_told(pairing, pairing.tight_lot(person))
    return ("can", world[:len(table)])


def shows_possible_told(table, told, name, row, value):
    """Whether any value is what possible_told may return."""
    check_told(table, told)
    person = person_number(table.census, name)
    check_row(table, row)
    known = Known(table, told)
    told_pairing(known)
    if is_tuple_of(value, 2) and value[0] == "can":
        world = value[1]
        return is_world(table, world) and world[row] == person and is_kept(table, told, world)
    if person not in known.fitting[row]:
        return value == ("cannot", "fit")
    if not is_tuple_of(value, 3) or value[0] != "cannot":
        return False
    return known.shuts_out(value[1], value[2], person, row)


def rows_told(table, told, name):
    """The rows that can be this person's."""
    check_told(table, told)
    person = person_number(table.census, name)
    return tuple([row for row in told_pairing(Known(table, told)).possible_rows(person) if row < len(table)])


def secrets_in_pairing(table, pairing, person):
    """All secrets that this person has in some world, "" for out; ascending."""
    rows = pairing.possible_rows(person)
    secrets = secrets_in(table, [row for row in rows if row < len(table)])
    # Whose row is a further one is out; each person has some row in each world.
    return ("",) + secrets if rows[-1] >= len(table) else secrets


def secrets_told(table, told, name):
    """All secrets that this person has in some world that keeps what is told, "" for out."""
    check_told(table, told)
    person = person_number(table.census, name)
    return secrets_in_pairing(table, told_pairing(Known(table, told)), person)


def sure_told(table, told):
    """(name, secret) for all persons who have just one secret in all worlds that keep what is told."""
    check_told(table, told)
    pairing = told_pairing(Known(table, told))
    found = []
    for person, (name, _) in enumerate(table.census.persons):
        secrets = secrets_in_pairing(table, pairing, person)
        if len(secrets) == 1:
            found.append((name, secrets[0]))
    return tuple(sorted(found))


def told_in(table, world, names):
    """What is told if it is told what these persons have in this world."""
    return tuple([(name, secret_in(table, world, table.census.numbers[name])) for name in names])


def given_away(table, truth, names):
    """All that becomes sure of others if it is told what these persons have in truth."""
    check_world(table, truth)
    if not are_names(table, names):
        raise BadNames(names)
    before = sure_told(table, ())
    behind = sure_told(table, told_in(table, truth, names))
    return tuple([pair for pair in behind if pair not in before and pair[0] not in names])


def check_telling(table, truth, name):
    """Raises BadWorld, NoPerson, then TooMany if there are too many persons."""
    check_world(table, truth)
    person_number(table.census, name)
    if len(table.census) > MOST_TELLING:
        raise TooMany(MOST_TELLING)


def gives_away(table, truth, names, name):
    """Whether this person is sure if it is told what those with these names have in truth."""
    return len(secrets_told(table, told_in(table, truth, names), name)) == 1


def least_telling(table, truth, name):
    """The fewest others who give this person away if it is told what they have in truth."""
    check_telling(table, truth, name)
    others = [other for other in sorted(list(table.census.numbers)) if other != name]
    for many in range(len(others)):
        for names in combinations(others, many):
            if gives_away(table, truth, names, name):
                return names
    return tuple(others)


def shows_least_telling(table, truth, name, value):
    """Whether value is what least_telling may return."""
    least = least_telling(table, truth, name)
    if not are_names(table, value) or name in value or len(value) != len(least):
        return False
    return gives_away(table, truth, value, name)
