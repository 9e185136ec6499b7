"""Who is hidden among how many rows and secrets, and what nothing tells anything of."""

from alikecrowds.errors import BadNumber
from alikecrowds.registers import person_number
from alikecrowds.scales import is_ascending, is_integer, is_number_below, is_tuple_of
from alikecrowds.tables import check_row
from alikecrowds.worlds import any_pairing, is_world, pairing_of, shows_impossible

MOST_MANY = 60


def rows_of(table, name):
    """The numbers of the rows that are possible for the person."""
    person = person_number(table.census, name)
    return pairing_of(table).possible_rows(person)


def owners_of(table, row):
    """The numbers of the persons for whom the row is possible."""
    check_row(table, row)
    pairing = pairing_of(table)
    return tuple([person for person in pairing.fitting[row] if row in pairing.possible_rows(person)])


def secrets_in(table, rows):
    """The secrets in these rows, each once, ascending."""
    return tuple(sorted(set([table.rows[row][1] for row in rows])))


def secrets_of(table, name):
    """The secrets in the rows that are possible for the person."""
    return secrets_in(table, rows_of(table, name))


def hidden_by(table, name):
    """How many rows are possible for the person."""
    return len(rows_of(table, name))


def parted_by(table, name):
    """How many secrets stand in the rows that are possible for the person."""
    return len(secrets_of(table, name))


def bound_persons(table, pairing):
    """(person, rows) for all who cannot be out: their numbers, and the rows possible for them."""
    bound = [person for person in range(len(table.census)) if not pairing.can_be_out(person)]
    return [(person, pairing.possible_rows(person)) for person in bound]


def least_hidden(table):
    """The least of hidden_by of all who cannot be out, None if everybody may be."""
    return min([len(rows) for _, rows in bound_persons(table, pairing_of(table))], default=None)


def least_parted(table):
    """The least of parted_by of all who cannot be out, None if everybody may be."""
    bound = bound_persons(table, pairing_of(table))
    return min([len(secrets_in(table, rows)) for _, rows in bound], default=None)


def exposed(table):
    """(name, secret) for all who cannot be out, and have one secret in all possible rows."""
    found = []
    for person, rows in bound_persons(table, pairing_of(table)):
        secrets = secrets_in(table, rows)
        if len(secrets) == 1:
            found.append((table.census.persons[person][0], secrets[0]))
    return tuple(sorted(found))


def check_many(many):
    """Raises BadNumber unless many is a number of rows to be hidden by."""
    if not is_integer(many) or not 1 <= many <= MOST_MANY:
        raise BadNumber(many)


def hiding(table, many):
    """Whether all who cannot be out are hidden by so many rows, with papers."""
    check_many(many)
    pairing = pairing_of(table)
    papers = []
    for person, rows in bound_persons(table, pairing):
        name = table.census.persons[person][0]
        if len(rows) < many:
            return ("seen", name, tuple([row_paper(pairing, person, row) for row in range(len(table))]))
        papers.append((name, tuple([(row, pairing.world_with(person, row)) for row in rows[:many]])))
    return ("hidden", tuple(papers))


def row_paper(pairing, person, row):
    """What is told of the row for a person who cannot be out: "can", or why it is not possible."""
    if person not in pairing.fitting[row]:
        return "fit"
    return "can" if row in pairing.possible_rows(person) else pairing.tight_lot(person)


def shows_hiding(table, many, value):
    """Whether any value is what hiding may return."""
    check_many(many)
    pairing = any_pairing(table)
    if pairing.torn is not None or not isinstance(value, tuple):
        return False
    bound = bound_persons(table, pairing)
    if len(value) == 2 and value[0] == "hidden":
        return shows_hidden(table, bound, many, value[1])
    if len(value) == 3 and value[0] == "seen":
        return shows_seen(table, bound, many, value[1:])
    return False


def shows_hidden(table, bound, many, papers):
    """Whether any value has papers for all who cannot be out."""
    if not is_tuple_of(papers, len(bound)):
        return False
    for (person, _), paper in zip(bound, papers):
        if not is_tuple_of(paper, 2) or paper[0] != table.census.persons[person][0]:
            return False
        if not is_tuple_of(paper[1], many) or not shows_rows_of(table, person, paper[1]):
            return False
    return True


def shows_rows_of(table, person, pairs):
    """Whether each part of a tuple is a pair of a row and a world in which it is the person's."""
    for pair in pairs:
        if not is_tuple_of(pair, 2) or not is_number_below(len(table), pair[0]):
            return False
        if not is_world(table, pair[1]) or pair[1][pair[0]] != person:
            return False
    return is_ascending([row for row, _ in pairs])


def shows_seen(table, bound, many, told):
    """Whether (name, papers) shows that this person is hidden by fewer rows."""
    name, papers = told
    for person, rows in bound:
        if table.census.persons[person][0] == name and len(rows) < many:
            return is_tuple_of(papers, len(table)) and shows_row_papers(table, person, rows, papers)
    return False


def shows_row_papers(table, person, rows, papers):
    """Whether the papers say of each row whether it is possible, and why if it is not."""
    for row, paper in enumerate(papers):
        shown = paper == "can" if row in rows else shows_impossible(table, person, row, paper)
        if not shown:
            return False
    return True


def crowds(table):
    """The crowds: persons for whom the same rows are possible, and who alike may be out or cannot."""
    pairing = pairing_of(table)
    found = {}
    for person, (name, _) in enumerate(table.census.persons):
        likeness = (pairing.possible_rows(person), pairing.can_be_out(person))
        found.setdefault(likeness, []).append(name)
    return tuple([tuple(sorted(names)) for names in found.values()])


def blocks(table):
    """The blocks: persons and rows that one can go between along possible pairs."""
    pairing = pairing_of(table)
    firsts = first_persons(table, pairing)
    found = {}
    for person, (name, _) in enumerate(table.census.persons):
        found.setdefault(firsts[person], ([], []))[0].append(name)
    for row in range(len(table)):
        found[firsts[pairing.owners[row]]][1].append(row)
    return tuple([(tuple(sorted(names)), tuple(rows)) for names, rows in found.values()])


def first_persons(table, pairing):
    """For each person the one of their block who stands first in the census."""
    firsts = list(range(len(table.census)))
    rows_by_person = [pairing.possible_rows(person) for person in firsts]
    for row in range(len(table)):
        met = [firsts[person] for person, rows in enumerate(rows_by_person) if row in rows]
        least = min(met)
        firsts = [least if first in met else first for first in firsts]
    return firsts
