"""Worlds counted, and how likely secrets are if all worlds are equally likely."""

from math import gcd

from alikecrowds.errors import BadNumber, BadSecret, BadWorld, TooMany
from alikecrowds.registers import person_number
from alikecrowds.scales import is_name, is_number_below
from alikecrowds.tables import check_row, fitting_rows
from alikecrowds.worlds import is_world, pairing_of

MOST_COUNTED = 10


class Tally:
    """In how many ways persons can have rows.

    A lot of rows is the sum of their bits; the last row has the least bit, so that the
    rows behind any row are all lots below its bit. seats has for each person the bits of
    the rows that fit them; ways has for each lot the number of ways to give its rows, and
    no others, to persons.
    """

    def __init__(self, table):
        names = [name for name, _ in table.census.persons]
        self.bits = [1 << (len(table) - 1 - row) for row in range(len(table))]
        self.seats = [[self.bits[row] for row in fitting_rows(table, name)] for name in names]
        self.ways = ways_of(self.seats, 1 << len(table))

    def total(self):
        """How many worlds there are."""
        return self.ways[-1]

    def with_pair(self, person, row):
        """In how many worlds the row is the person's."""
        if self.bits[row] not in self.seats[person]:
            return 0
        others = ways_without(self.ways, self.seats[person])
        return others[len(others) - 1 - self.bits[row]]

    def with_secrets(self, table, person):
        """In how many worlds the person has each secret: a dict, with "" for out, and no zeros."""
        others = ways_without(self.ways, self.seats[person])
        found = {"": others[-1]}
        for bit, (_, secret) in zip(self.bits, table.rows):
            if bit in self.seats[person]:
                found[secret] = found.get(secret, 0) + others[len(others) - 1 - bit]
        return {secret: many for secret, many in found.items() if many > 0}

    def choices(self, ways, taken):
        """Who can have the first row that ways tell of, if these persons have the rows ahead.

        A dict by their numbers, ascending: the ways in which others can have the rows behind.
        """
        first = len(ways) // 2
        found = {}
        for person, bits in enumerate(self.seats):
            if first in bits and person not in taken:
                found[person] = ways_without(ways[:first], bits)
        return found


def ways_of(seats, lots):
    """The ways of a Tally with these seats, for all lots below this one."""
    ways = [1] + [0] * (lots - 1)
    for bits in seats:
        # The greatest lot first: then a lesser one does not tell of this person yet.
        for lot in reversed(range(lots)):
            for bit in bits:
                if lot & bit:
                    ways[lot] += ways[lot - bit]
    return ways


def ways_without(ways, bits):
    """The ways if a person is left away whom the rows with these bits fit."""
    left = list(ways)
    # The least lot first: then this person is left away of a lesser one already.
    for lot in range(len(left)):
        for bit in bits:
            if lot & bit:
                left[lot] -= left[lot - bit]
    return left


def tally_of(table):
    """The tally of this table; raises TooMany."""
    if len(table) > MOST_COUNTED:
        raise TooMany(len(table))
    return Tally(table)


def tally_with_world(table):
    """The tally of this table; raises TooMany, then NoWorld."""
    tally = tally_of(table)
    pairing_of(table)
    return tally


def worlds_many(table):
    """How many worlds there are."""
    return tally_of(table).total()


def worlds_with(table, name, row):
    """In how many worlds this row is this person's."""
    person = person_number(table.census, name)
    check_row(table, row)
    return tally_of(table).with_pair(person, row)


def nth_world(table, number):
    """The world with this number, all worlds being numbered from 0, ascending."""
    tally = tally_with_world(table)
    if not is_number_below(tally.total(), number):
        raise BadNumber(number)
    world = []
    ways = tally.ways
    while len(world) < len(table):
        choices = tally.choices(ways, world)
        person, number = chosen(choices, number)
        world.append(person)
        ways = choices[person]
    return tuple(world)


def chosen(choices, number):
    """Who has the row in the world with this number, and its number among those in which they have it."""
    persons = list(choices)
    at = 0
    while number >= choices[persons[at]][-1]:
        number -= choices[persons[at]][-1]
        at += 1
    return (persons[at], number)


def number_of(table, world):
    """The number of this world."""
    if not is_world(table, world):
        raise BadWorld(world)
    tally = tally_of(table)
    number = 0
    ways = tally.ways
    for row, owner in enumerate(world):
        choices = tally.choices(ways, world[:row])
        number += sum([choices[person][-1] for person in choices if person < owner])
        ways = choices[owner]
    return number


def lowest_terms(top, bottom):
    """The fraction top / bottom in lowest terms: a pair."""
    common = gcd(top, bottom)
    return (top // common, bottom // common)


def share(table, name, secret):
    """In which part of all worlds the person has this secret, "" for out: (top, bottom)."""
    person = person_number(table.census, name)
    if secret != "" and not is_name(secret):
        raise BadSecret(secret)
    tally = tally_with_world(table)
    return lowest_terms(tally.with_secrets(table, person).get(secret, 0), tally.total())


def shares(table, name):
    """(secret, top, bottom) for all secrets that the person has in some world, "" for out."""
    person = person_number(table.census, name)
    tally = tally_with_world(table)
    found = []
    for secret, many in tally.with_secrets(table, person).items():
        found.append((secret,) + lowest_terms(many, tally.total()))
    return tuple(sorted(found))


def surest(table):
    """(top, bottom, person, secret) with the greatest share of any secret but ""; None without rows."""
    tally = tally_with_world(table)
    found = []
    for person in range(len(table.census)):
        for secret, many in tally.with_secrets(table, person).items():
            if secret != "":
                found.append((-many, person, secret))
    if not found:
        return None
    many, person, secret = min(found)
    return lowest_terms(-many, tally.total()) + (person, secret)
