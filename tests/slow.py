"""A slow way to all answers about worlds: all worlds and all lots of a small table, one by one.

It also draws small tables, and values that are near to an answer.
"""

import itertools
import random

from alikecrowds.errors import NoWorld
from alikecrowds.registers import Register
from alikecrowds.tables import Table, fits
from samples import CrowdCase

KINDS = ["column home kinds", "kind home all none 2", "kind home north all 1", "kind home south all 1"]
SECRETS = ["flu", "cold", "gout"]
WORDS = ["can", "cannot", "fit", "world", "torn", "seen", "hidden"]


def line_table(ages, *rows):
    """A table with one line: the ages of the persons p0, p1 ..; a row is (low, high, secret)."""
    persons = [f"person p{number} {age}" for number, age in enumerate(ages)]
    census = Register("\n".join(["column age line"] + persons))
    return Table(census, "\n".join([f"row {low}..{high} {secret}" for low, high, secret in rows]))


def drawn_small(dice, persons=6, rows=5):
    """A table that is drawn, with so many persons and rows at most, and names in no order."""
    many = max(dice.randint(0, persons), dice.randint(0, rows))
    with_kinds = dice.random() < 0.4
    lines = ["column age line"] + (KINDS if with_kinds else [])
    names = dice.sample(["ann", "bob", "cid", "dee", "eva", "fay", "gus"], many)
    known = [(dice.randint(0, dice.choice([2, 5])), dice.choice(["north", "south", "all"])) for _ in names]
    for name, (age, home) in zip(names, known):
        lines.append(f"person {name} {age}" + (f" {home}" if with_kinds else ""))
    marks = []
    for age, home in drawn_owners(dice, known, rows):
        low, high = age - dice.choice([0, 0, 0, 1, 3]), age + dice.choice([0, 0, 0, 1, 3])
        home = dice.choice([home, "all"])
        marks.append(f"row {low}..{high} " + (f"{home} " if with_kinds else "") + dice.choice(SECRETS))
    return Table(Register("\n".join(lines)), "\n".join(marks))


def drawn_owners(dice, known, rows):
    """Whom the rows are drawn for: each for another person, or several for one, so that it may be torn."""
    most = min(rows, len(known))
    own = dice.sample(known, dice.choice([most, dice.randint(0, most)]))
    often = dice.choice([0, 0.3, 0.9, 0.9])
    return [known[0] if dice.random() < often else person for person in own]


class Slow:
    def __init__(self, table):
        self.table = table
        self.names = [name for name, _ in table.census.persons]
        self.persons = range(len(self.names))
        self.rows = range(len(table))
        self.secrets = [secret for _, secret in table.rows]
        self.fitting = {(person, row) for person in self.persons for row in self.rows
                        if fits(table, self.names[person], row)}
        self.worlds = [world for world in itertools.permutations(self.persons, len(table))
                       if all((person, row) in self.fitting for row, person in enumerate(world))]
        self.lots = [lot for many in range(1, len(table) + 1) for lot in itertools.combinations(self.rows, many)]
        self.torn = [lot for lot in self.lots if len(self.persons_of(lot)) < len(lot)]
        self.tight = [lot for lot in self.lots if len(self.persons_of(lot)) == len(lot)]

    def persons_of(self, lot):
        return tuple([person for person in self.persons if any((person, row) in self.fitting for row in lot)])

    def can(self, person, row):
        return any(world[row] == person for world in self.worlds)

    def can_be_out(self, person):
        return any(person not in world for world in self.worlds)

    def rows_of(self, person):
        return tuple([row for row in self.rows if self.can(person, row)])

    def owners_of(self, row):
        return tuple([person for person in self.persons if self.can(person, row)])

    def secrets_of(self, person):
        return tuple(sorted({self.secrets[row] for row in self.rows_of(person)}))

    def bound(self):
        """All who cannot be out."""
        return [person for person in self.persons if not self.can_be_out(person)]

    def right_worlds(self):
        """All that a_world may return."""
        return [("world", world) for world in self.worlds] or [("torn", lot) for lot in self.torn]

    def right_possible(self, person, row):
        """All that possible may return."""
        found = [("can", world) for world in self.worlds if world[row] == person]
        if (person, row) not in self.fitting:
            return [("cannot", "fit")]
        return found or [("cannot", lot) for lot in self.tight if person in self.persons_of(lot) and row not in lot]

    def right_out(self, person):
        """All that may_be_out may return."""
        found = [("can", world) for world in self.worlds if person not in world]
        return found or [("cannot", lot) for lot in self.tight if person in self.persons_of(lot)]

    def is_right_hiding(self, many, value):
        """Whether this is what hiding may return; told by the texts of values, so that True is not 1."""
        if not self.worlds or not isinstance(value, tuple):
            return False
        if len(value) == 2 and repr(value[0]) == "'hidden'":
            return isinstance(value[1], tuple) and len(value[1]) == len(self.bound()) and all(
                self.is_right_hidden(person, many, paper) for person, paper in zip(self.bound(), value[1]))
        if len(value) == 3 and repr(value[0]) == "'seen'":
            return any(self.is_right_seen(person, many, value) for person in self.bound())
        return False

    def is_right_hidden(self, person, many, paper):
        if not isinstance(paper, tuple) or len(paper) != 2 or repr(paper[0]) != repr(self.names[person]):
            return False
        rights = {repr((row, world)): row for row in self.rows for world in self.worlds if world[row] == person}
        if not isinstance(paper[1], tuple) or len(paper[1]) != many:
            return False
        rows = [rights.get(repr(pair), -1) for pair in paper[1]]
        return -1 not in rows and rows == sorted(set(rows))

    def is_right_seen(self, person, many, value):
        if repr(value[1]) != repr(self.names[person]) or len(self.rows_of(person)) >= many:
            return False
        if not isinstance(value[2], tuple) or len(value[2]) != len(self.rows):
            return False
        for row, paper in zip(self.rows, value[2]):
            told = [right[1] if right[0] == "cannot" else "can" for right in self.right_possible(person, row)]
            if repr(paper) not in [repr(part) for part in told]:
                return False
        return True

    def crowds(self):
        found = {}
        for person in self.persons:
            found.setdefault((self.rows_of(person), self.can_be_out(person)), []).append(self.names[person])
        return tuple([tuple(sorted(names)) for names in found.values()])

    def blocks(self):
        found = []
        left = list(self.persons)
        while left:
            persons, rows = {left[0]}, set()
            for _ in left:
                rows |= {row for row in self.rows for person in persons if self.can(person, row)}
                persons |= {person for person in self.persons for row in rows if self.can(person, row)}
            left = [person for person in left if person not in persons]
            found.append((tuple(sorted(self.names[person] for person in persons)), tuple(sorted(rows))))
        return tuple(found)

    def has(self, person, secret):
        """In how many worlds the person has this secret, "" for out."""
        return sum(1 for world in self.worlds
                   if secret == (self.secrets[world.index(person)] if person in world else ""))


class DrawnCase(CrowdCase):
    def drawn(self, seed, many, persons=6, rows=5):
        """So many tables, some with a world and some without one, each with its slow way."""
        dice = random.Random(seed)
        found = [(table, Slow(table)) for table in [drawn_small(dice, persons, rows) for _ in range(many)]]
        for wanted in (True, False):
            self.assertGreater(len([slow for _, slow in found if bool(slow.worlds) == wanted]), many // 12)
        return found

    def drawn_with_world(self, seed, many, persons=6, rows=5):
        return [(table, slow) for table, slow in self.drawn(seed, many, persons, rows) if slow.worlds]

    def check_torn(self, slow, call, *parts):
        """The call raises NoWorld with a torn lot."""
        with self.assertRaises(NoWorld) as caught:
            call(*parts)
        self.assertIn(repr(caught.exception.value), [repr(lot) for lot in slow.torn])


def partings(things, least=1):
    """All ways to part things into crowds of at least so many, each a list of tuples."""
    if not things:
        return [[]]
    found = []
    first, others = things[0], things[1:]
    for many in range(max(0, least - 1), len(others) + 1):
        for more in itertools.combinations(others, many):
            rest = [thing for thing in others if thing not in more]
            found += [[(first,) + more] + parting for parting in partings(rest, least)]
    return found


def is_strict(value, shape):
    """Whether the value has this shape: a class, [shape] for a tuple of any length, or a tuple of shapes."""
    if isinstance(shape, type):
        return type(value) is shape
    if type(value) is not tuple:
        return False
    if isinstance(shape, list):
        return all(is_strict(part, shape[0]) for part in value)
    return len(value) == len(shape) and all(is_strict(part, its) for part, its in zip(value, shape))


def near(value):
    """Values near to this one: a part more or less, another word, another kind of value, at any depth."""
    found = [None, [], (value,), [value], {"a": value}, True, False]
    if isinstance(value, str):
        return found + [value + "s", value[:-1], value.upper(), ""] + WORDS
    if isinstance(value, int):
        return found + [value + 1, value - 1, -value, bool(value), str(value), value + 60, value + 10 ** 39]
    if not isinstance(value, tuple):
        return found
    found += [list(value), value + value, value + (0,), value + (None,), (0,) + value, (), tuple(reversed(value))]
    for at in range(len(value)):
        found.append(value[:at] + value[at + 1:])
        found.append(value[:at] + (value[at],) + value[at:])
        found.append(value[:at] + value[at + 1:at + 2] + value[at:at + 1] + value[at + 2:])
        found += [value[:at] + (part,) + value[at + 1:] for part in near(value[at])]
    return found
