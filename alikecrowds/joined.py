"""Two tables together: joint worlds, in which nobody has two unlike secrets.

A lot of rows of both tables is the sum of their bits; what a person may have in a joint
world is the lot of the rows that are theirs: none, one of one table, or one of each.
"""

from alikecrowds.errors import BadColumns, BadSecret, NoJoint, OtherRegister, TooMany
from alikecrowds.registers import Register, person_number, register_text
from alikecrowds.scales import is_name, is_tuple_of
from alikecrowds.tables import Table, fitting_rows, table_text
from alikecrowds.telling import secrets_told
from alikecrowds.worlds import is_world, world_of

MOST_JOINT = 5


class Joint:
    """All joint worlds of two tables.

    options has for each person (lot, secret) for each lot that may be theirs, the empty
    one first; everything is the lot of all rows.
    """

    def __init__(self, table, other):
        self.many = len(table)
        self.everything = (1 << (len(table) + len(other))) - 1
        self.options = []
        for name, _ in table.census.persons:
            ones = [(1 << row, table.rows[row][1]) for row in fitting_rows(table, name)]
            others = [(1 << (self.many + row), other.rows[row][1]) for row in fitting_rows(other, name)]
            both = [(one + its, secret) for one, secret in ones for its, same in others if secret == same]
            self.options.append([(0, "")] + ones + others + both)

    def with_secret(self, person, secret):
        """The options if this person has this secret."""
        options = list(self.options)
        options[person] = [(lot, its) for lot, its in options[person] if its == secret]
        return options

    def any_world(self, options):
        """Any joint world with these options, None if there is none."""
        ways = ways_along(options, self.everything)
        left = self.everything
        if ways[-1][left] == 0:
            return None
        owners = {}
        for person in reversed(range(len(options))):
            lots = [lot for lot, _ in options[person] if lot & left == lot and ways[person][left - lot] > 0]
            owned = lots[0]
            left -= owned
            owners.update({row: person for row in range(owned.bit_length()) if owned & (1 << row)})
        world = world_of(owners)
        return (world[:self.many], world[self.many:])

    def secrets_by_person(self, persons):
        """For each of these persons all secrets that they have in some joint world, ascending."""
        ways = ways_along(self.options, self.everything)[-1]
        found = []
        for person in persons:
            others = ways_of_others(ways, self.options[person])
            secrets = [secret for lot, secret in self.options[person] if others[self.everything - lot] > 0]
            found.append(sorted(set(secrets)))
        return found


def ways_along(options, everything):
    """For each number of first persons: for each lot the ways to give them its rows, and no others."""
    found = [[1] + [0] * everything]
    wholes = range(everything + 1)
    for own in options:
        before = found[-1]
        lots = [lot for lot, _ in own]
        found.append([sum([before[whole - lot] for lot in lots if whole & lot == lot]) for whole in wholes])
    return found


def ways_of_others(ways, own):
    """For each lot the ways to give its rows to all others but one person with these options."""
    left = []
    lots = [lot for lot, _ in own if lot > 0]
    for whole, many in enumerate(ways):
        # Lesser lots are told of the others alone already.
        left.append(many - sum([left[whole - lot] for lot in lots if whole & lot == lot]))
    return left


def check_registers(table, other):
    """Raises OtherRegister unless the registers of both tables are equal."""
    if table.census != other.census:
        raise OtherRegister(None)


def joint_of(table, other):
    """All joint worlds; raises TooMany."""
    for one in (table, other):
        if len(one) > MOST_JOINT:
            raise TooMany(len(one))
    return Joint(table, other)


def some_joint_of(table, other):
    """All joint worlds; raises OtherRegister, TooMany, then NoJoint."""
    check_registers(table, other)
    joint = joint_of(table, other)
    if joint.any_world(joint.options) is None:
        raise NoJoint(None)
    return joint


def joint_many(table, other):
    """How many joint worlds there are."""
    check_registers(table, other)
    joint = joint_of(table, other)
    return ways_along(joint.options, joint.everything)[-1][-1]


def a_joint(table, other):
    """Any joint world, None if there is none."""
    check_registers(table, other)
    joint = joint_of(table, other)
    return joint.any_world(joint.options)


def is_joint(table, other, value):
    """Whether any value is a joint world."""
    if not is_tuple_of(value, 2) or not is_world(table, value[0]) or not is_world(other, value[1]):
        return False
    world, its = value
    secrets = {person: table.rows[row][1] for row, person in enumerate(world)}
    return all([secrets.get(person, other.rows[row][1]) == other.rows[row][1] for row, person in enumerate(its)])


def shows_joint(table, other, value):
    """Whether any value is what a_joint may return."""
    return value is None if a_joint(table, other) is None else is_joint(table, other, value)


def joint_secrets(table, other, name):
    """All that the person has in some joint world, "" for out of both."""
    person = person_number(table.census, name)
    return tuple(some_joint_of(table, other).secrets_by_person([person])[0])


def joint_can(table, other, name, secret):
    """Any joint world in which the person has this secret, "" for out of both; None if there is none."""
    person = person_number(table.census, name)
    check_registers(table, other)
    if secret != "" and not is_name(secret):
        raise BadSecret(secret)
    joint = joint_of(table, other)
    return joint.any_world(joint.with_secret(person, secret))


def secret_in_joint(table, other, value, person):
    """What the person has in this joint world."""
    for one, world in ((table, value[0]), (other, value[1])):
        if person in world:
            return one.rows[world.index(person)][1]
    return ""


def shows_joint_can(table, other, name, secret, value):
    """Whether any value is what joint_can may return."""
    if joint_can(table, other, name, secret) is None:
        return value is None
    person = person_number(table.census, name)
    return is_joint(table, other, value) and secret_in_joint(table, other, value, person) == secret


def both_let(ones, others):
    """All secrets that a person can have who has one of ones in a table, and one of others in another one."""
    found = [secret for secret in ones if secret in others or "" in others]
    return found + [secret for secret in others if secret not in found and "" in ones]


def newly_known(table, other):
    """(person, secret) for all that each table alone leaves open, and both together do not."""
    joint = some_joint_of(table, other)
    names = [name for name, _ in table.census.persons]
    found = []
    for person, secrets in enumerate(joint.secrets_by_person(list(range(len(names))))):
        ones, others = [secrets_told(one, (), names[person]) for one in (table, other)]
        found.extend([(person, secret) for secret in both_let(ones, others) if secret not in secrets])
    return tuple(sorted(found))


def chosen_columns(census, names):
    """The numbers of these columns; raises BadColumns unless they are unlike, in their order, and one at least."""
    columns = list(census.scales)
    if not isinstance(names, tuple) or not names or not all([name in columns for name in names]):
        raise BadColumns(names)
    chosen = [columns.index(name) for name in names]
    if chosen != sorted(set(chosen)):
        raise BadColumns(names)
    return chosen


def columns_alone(census, names):
    """The register with these columns alone, and all persons."""
    chosen = chosen_columns(census, names)
    columns = tuple([census.columns[at] for at in chosen])
    kinds = tuple([kind for kind in census.kinds if kind[0] in names])
    persons = tuple([(name, tuple([values[at] for at in chosen])) for name, values in census.persons])
    return Register(register_text(columns, kinds, persons))


def table_alone(table, names):
    """The table that has the marks of these columns alone, for the register with these."""
    chosen = chosen_columns(table.census, names)
    census = columns_alone(table.census, names)
    rows = tuple([(tuple([marks[at] for at in chosen]), secret) for marks, secret in table.rows])
    return Table(census, table_text(census, rows))
