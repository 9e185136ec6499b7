"""Worlds: whole ways to give the rows of a table to persons, and which pairs are possible.

A world shows that something can be; a lot of rows that fit as many persons as they are,
or fewer, shows that it cannot.
"""

from alikecrowds.errors import BadLot, NoWorld
from alikecrowds.registers import person_number
from alikecrowds.scales import is_lot_below, is_number_below, is_tuple_of
from alikecrowds.tables import check_row, fitting_persons, row_fits


class Pairing:
    """Rows given to persons whom they fit, no two to one, up to the first that cannot be given.

    fitting has for each row the persons whom it fits. owners has the person of each row,
    seats the row of each of these persons. torn is a torn lot if some row cannot be given,
    and None otherwise; all methods below are meant for this case.
    """

    def __init__(self, fitting):
        self.fitting = fitting
        self.owners = {}
        self.seats = {}
        self.torn = None
        self.chains = {}
        for row in range(len(fitting)):
            chain = self._chain_from(row)
            owners = self._owners_without_start(chain)
            if owners is None:
                self.torn = tuple(sorted(chain))
                break
            self.owners = owners
            self.seats = {person: own for own, person in owners.items()}

    def _chain_from(self, start):
        """All rows that start can drive from their owners, directly or by others: a dict.

        It has for each of them the row that drives it away, None for start. So these rows
        fit no owners but their own.
        """
        chain = {start: None}
        waiting = [start]
        while waiting:
            row = waiting.pop()
            for person in self.fitting[row]:
                driven = self.seats.get(person)
                if driven is not None and driven not in chain:
                    chain[driven] = row
                    waiting.append(driven)
        return chain

    def _owners_moved(self, chain, row, person):
        """The owners if the person gets the row, its owner the row that drove it away, and so on."""
        owners = dict(self.owners)
        while row is not None:
            left = owners.get(row)
            owners[row] = person
            row, person = chain[row], left
        return owners

    def _owners_without_start(self, chain):
        """The owners if the start of the chain gives up its own and gets another; None if it cannot."""
        for row in chain:
            for person in self.fitting[row]:
                if person not in self.seats:
                    return self._owners_moved(chain, row, person)
        return None

    def _chain_of(self, person):
        """The chain from the row of a person, who has one."""
        start = self.seats[person]
        if start not in self.chains:
            self.chains[start] = self._chain_from(start)
        return self.chains[start]

    def widened(self, fitting):
        """The pairing for rows that fit these persons, those of fitting among them: the owners stay."""
        wider = Pairing([])
        wider.fitting = fitting
        wider.owners = self.owners
        wider.seats = self.seats
        return wider

    def world(self):
        """Any world."""
        return world_of(self.owners)

    def world_with(self, person, row):
        """A world in which this row, which fits them, is the person's; None if there is none."""
        if person not in self.seats:
            return world_of(self._owners_moved({row: None}, row, person))
        chain = self._chain_of(person)
        if row in chain:
            return world_of(self._owners_moved(chain, row, person))
        owners = self._owners_without_start(chain)
        if owners is None:
            return None
        # The row is not in the chain: nobody has been moved to it or from it.
        owners[row] = person
        return world_of(owners)

    def world_without(self, person):
        """A world in which the person is out; None if there is none."""
        if person not in self.seats:
            return self.world()
        owners = self._owners_without_start(self._chain_of(person))
        return None if owners is None else world_of(owners)

    def can_be_out(self, person):
        """Whether the person is out in some world."""
        return self.world_without(person) is not None

    def possible_rows(self, person):
        """The rows that can be the person's."""
        rows = [row for row, persons in enumerate(self.fitting) if person in persons]
        if not self.can_be_out(person):
            chain = self._chain_of(person)
            rows = [row for row in rows if row in chain]
        return tuple(rows)

    def tight_lot(self, person):
        """A tight lot with all rows that can be the person's, who cannot be out."""
        # No row of the chain fits who is out, or any owner but those of the chain itself.
        return tuple(sorted(self._chain_of(person)))


def world_of(owners):
    """The world with these owners, a dict by rows."""
    return tuple([owners[row] for row in range(len(owners))])


def any_pairing(table):
    """The pairing of the rows of this table, torn if it has no world."""
    return Pairing([fitting_persons(table, row) for row in range(len(table))])


def pairing_of(table):
    """The pairing of the rows of this table; raises NoWorld."""
    pairing = any_pairing(table)
    if pairing.torn is not None:
        raise NoWorld(pairing.torn)
    return pairing


def is_world(table, value):
    """Whether any value is a world."""
    persons = len(table.census)
    if not is_tuple_of(value, len(table)) or not all([is_number_below(persons, person) for person in value]):
        return False
    if len(set(value)) < len(value):
        return False
    return all([row_fits(table, person, row) for row, person in enumerate(value)])


def is_lot(table, value):
    """Whether any value is a lot."""
    return is_lot_below(len(table), value) and len(value) > 0


def persons_in(table, lot):
    """The numbers of all persons whom some row of this lot fits."""
    persons = range(len(table.census))
    return tuple([person for person in persons if any([row_fits(table, person, row) for row in lot])])


def persons_of(table, lot):
    """The numbers of the persons of this lot."""
    if not is_lot(table, lot):
        raise BadLot(lot)
    return persons_in(table, lot)


def is_torn(table, value):
    """Whether any value is a torn lot."""
    return is_lot(table, value) and len(persons_in(table, value)) < len(value)


def is_tight_with(table, value, person):
    """Whether any value is a tight lot, and the person is one of its persons."""
    if not is_lot(table, value):
        return False
    persons = persons_in(table, value)
    return len(persons) == len(value) and person in persons


def a_world(table):
    """("world", world) with any world, ("torn", lot) with any torn lot if there is none."""
    pairing = any_pairing(table)
    return ("world", pairing.world()) if pairing.torn is None else ("torn", pairing.torn)


def shows_world(table, value):
    """Whether any value is what a_world may return."""
    if not is_tuple_of(value, 2):
        return False
    word, paper = value
    if word == "world":
        return is_world(table, paper)
    return word == "torn" and is_torn(table, paper)


def possible(table, name, row):
    """Whether this row can be this person's, with a world, or with a lot that shuts it out."""
    person = person_number(table.census, name)
    check_row(table, row)
    pairing = pairing_of(table)
    if not row_fits(table, person, row):
        return ("cannot", "fit")
    world = pairing.world_with(person, row)
    return ("cannot", pairing.tight_lot(person)) if world is None else ("can", world)


def shows_possible(table, name, row, value):
    """Whether any value is what possible may return."""
    person = person_number(table.census, name)
    check_row(table, row)
    pairing_of(table)
    if not is_tuple_of(value, 2):
        return False
    word, paper = value
    if word == "can":
        return is_world(table, paper) and paper[row] == person
    return word == "cannot" and shows_impossible(table, person, row, paper)


def shows_impossible(table, person, row, paper):
    """Whether any value shows that the row cannot be the person's: "fit", or a lot."""
    if not row_fits(table, person, row):
        return paper == "fit"
    return is_tight_with(table, paper, person) and row not in paper


def may_be_out(table, name):
    """Whether this person can be out, with a world, or with a lot that shuts it out."""
    person = person_number(table.census, name)
    pairing = pairing_of(table)
    world = pairing.world_without(person)
    return ("cannot", pairing.tight_lot(person)) if world is None else ("can", world)


def shows_out(table, name, value):
    """Whether any value is what may_be_out may return."""
    person = person_number(table.census, name)
    pairing_of(table)
    if not is_tuple_of(value, 2):
        return False
    word, paper = value
    if word == "can":
        return is_world(table, paper) and person not in paper
    return word == "cannot" and is_tight_with(table, paper, person)


def all_possible(table):
    """For each person the numbers of the rows that can be theirs."""
    pairing = pairing_of(table)
    return tuple([pairing.possible_rows(person) for person in range(len(table.census))])


def all_out(table):
    """The numbers of all persons who may be out."""
    pairing = pairing_of(table)
    return tuple([person for person in range(len(table.census)) if pairing.can_be_out(person)])


def sure_rows(table):
    """(person, row) for all who cannot be out and have one row alone that can be theirs."""
    pairing = pairing_of(table)
    found = []
    for person in range(len(table.census)):
        rows = pairing.possible_rows(person)
        if len(rows) == 1 and not pairing.can_be_out(person):
            found.append((person, rows[0]))
    return tuple(found)
