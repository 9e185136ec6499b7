"""A desk: registers and tables under names, and what is told of each table.

It goes on by deeds, which can be undone and done again, and is written as a journal.
"""

from alikecrowds.edits import with_row, without_row
from alikecrowds.errors import BadDeed, BadDesk, BadName, BadPerson, BadSecret, CrowdError, Full, Held, InUse
from alikecrowds.errors import NoName, NoNote, NotThat, NothingToRedo, NothingToUndo, NotTold, TooMany
from alikecrowds.registers import MOST_PERSONS, Register, person_in, person_number, register_text
from alikecrowds.scales import integer_in, is_name, values_stand
from alikecrowds.tables import Table, marked, marks_in
from alikecrowds.telling import secrets_told, sure_told

# How many parts stand behind each word of a deed.
PARTS = {
    "register": 2, "person": 3, "table": 3, "row": 3, "strike": 2,
    "marks": 3, "out": 3, "hush": 2, "copy": 2, "drop": 1,
}


class Sheet:
    """A table at a desk: home is the name of its register, told is what is told of it."""

    def __init__(self, home, table, told):
        self.home = home
        self.table = table
        self.told = told


def thing_at(things, name):
    """The thing with this name; raises NoName."""
    if not isinstance(name, str) or name not in things:
        raise NoName(name)
    return things[name]


def census_at(things, name):
    """The register with this name; raises NoName, NotThat."""
    thing = thing_at(things, name)
    if not isinstance(thing, Register):
        raise NotThat(name)
    return thing


def sheet_at(things, name):
    """The table with this name; raises NoName, NotThat."""
    thing = thing_at(things, name)
    if not isinstance(thing, Sheet):
        raise NotThat(name)
    return thing


def check_new(things, name):
    """Raises BadName, Held unless this can be the name of one thing more."""
    if not is_name(name):
        raise BadName(name)
    if name in things:
        raise Held(name)


def sheets_for(things, home):
    """The names of all tables for the register of this name."""
    return [name for name, thing in things.items() if isinstance(thing, Sheet) and thing.home == home]


# Each of these tells what one deed changes: a dict of things by names, None for one that goes.


def new_census(things, name, text):
    """What the deed "register" changes."""
    check_new(things, name)
    return {name: Register(text)}


def with_one_more(things, name, person, values):
    """What the deed "person" changes."""
    census = census_at(things, name)
    if not is_name(person) or person in census.numbers or not values_stand(census.scales, values):
        raise BadPerson((person, values))
    if len(census) >= MOST_PERSONS:
        raise TooMany(MOST_PERSONS)
    more = Register(register_text(census.columns, census.kinds, census.persons + ((person, values),)))
    changes = {name: more}
    for at in sheets_for(things, name):
        changes[at] = Sheet(name, Table(more, things[at].table.text), things[at].told)
    return changes


def new_table(things, name, home, text):
    """What the deed "table" changes."""
    check_new(things, name)
    return {name: Sheet(home, Table(census_at(things, home), text), ())}


def with_row_more(things, name, marks, secret):
    """What the deed "row" changes."""
    sheet = sheet_at(things, name)
    try:
        table = with_row(sheet.table, marks, secret)
    except Full:
        raise TooMany(len(sheet.table)) from None
    return {name: Sheet(sheet.home, table, sheet.told)}


def with_row_struck(things, name, row):
    """What the deed "strike" changes."""
    sheet = sheet_at(things, name)
    return {name: Sheet(sheet.home, without_row(sheet.table, row), sheet.told)}


def with_marks(things, name, row, marks):
    """What the deed "marks" changes."""
    sheet = sheet_at(things, name)
    return {name: Sheet(sheet.home, marked(sheet.table, row, marks), sheet.told)}


def with_told(things, name, person, secret):
    """What the deed "out" changes."""
    sheet = sheet_at(things, name)
    person_number(sheet.table.census, person)
    if secret != "" and not is_name(secret):
        raise BadSecret(secret)
    told = dict(sheet.told)
    told[person] = secret
    return {name: Sheet(sheet.home, sheet.table, tuple(sorted(told.items())))}


def with_hushed(things, name, person):
    """What the deed "hush" changes."""
    sheet = sheet_at(things, name)
    person_number(sheet.table.census, person)
    left = tuple([pair for pair in sheet.told if pair[0] != person])
    if len(left) == len(sheet.told):
        raise NotTold(person)
    return {name: Sheet(sheet.home, sheet.table, left)}


def with_copy(things, name, new):
    """What the deed "copy" changes."""
    thing = thing_at(things, name)
    check_new(things, new)
    return {new: thing}


def with_dropped(things, name):
    """What the deed "drop" changes."""
    if isinstance(thing_at(things, name), Register) and sheets_for(things, name):
        raise InUse(min(sheets_for(things, name)))
    return {name: None}


DEEDS = {
    "register": new_census, "person": with_one_more, "table": new_table, "row": with_row_more,
    "strike": with_row_struck, "marks": with_marks, "out": with_told, "hush": with_hushed,
    "copy": with_copy, "drop": with_dropped,
}


def check_deed(deed):
    """Raises BadDeed unless this is a tuple with the word of a deed, and as many parts as told."""
    if not isinstance(deed, tuple) or not deed or not isinstance(deed[0], str):
        raise BadDeed(deed)
    if PARTS.get(deed[0]) != len(deed) - 1:
        raise BadDeed(deed)


class Desk:
    """Things under names, and the deeds that have led to them, with those that were undone."""

    def __init__(self):
        self._things = {}
        self._deeds = []
        # For each deed (before, behind) of each thing that it changes, None for no thing.
        self._changes = []
        self._standing = 0
        self._noted = {}

    @property
    def names(self):
        """The names of all things, ascending."""
        return tuple(sorted(self._things))

    def __len__(self):
        return len(self._things)

    def __contains__(self, value):
        return isinstance(value, str) and value in self._things

    def lead(self, deed):
        """Does this deed; undone ones are forgotten, and notes that told of them."""
        check_deed(deed)
        make = DEEDS[deed[0]]
        parts = deed[1:]
        changes = make(self._things, *parts)
        del self._deeds[self._standing:]
        del self._changes[self._standing:]
        self._noted = {word: number for word, number in self._noted.items() if number <= self._standing}
        self._deeds.append(deed)
        self._changes.append({name: (self._things.get(name), thing) for name, thing in changes.items()})
        self.redo()

    def thing_kind(self, name):
        """What the thing with this name is: "register" or "table"."""
        return "register" if isinstance(thing_at(self._things, name), Register) else "table"

    def thing_of(self, name):
        """The Register, or the Table, with this name."""
        thing = thing_at(self._things, name)
        return thing if isinstance(thing, Register) else thing.table

    def register_of(self, name):
        """The name of the register of this table."""
        return sheet_at(self._things, name).home

    def told_of(self, name):
        """What is told of this table."""
        return sheet_at(self._things, name).told

    def secrets_of(self, name, person):
        """All secrets that the person can have by this table, and what is told of it."""
        sheet = sheet_at(self._things, name)
        return secrets_told(sheet.table, sheet.told, person)

    def sure_of(self, name):
        """(name, secret) for all whose secret is sure by this table, and what is told of it."""
        sheet = sheet_at(self._things, name)
        return sure_told(sheet.table, sheet.told)

    def undo(self):
        """Undoes the last deed that stands."""
        if self._standing == 0:
            raise NothingToUndo(0)
        self._standing -= 1
        for name, (before, _) in self._changes[self._standing].items():
            self._put(name, before)

    def redo(self):
        """Does the deed again that was undone last."""
        if self._standing == len(self._deeds):
            raise NothingToRedo(self._standing)
        for name, (_, behind) in self._changes[self._standing].items():
            self._put(name, behind)
        self._standing += 1

    def _put(self, name, thing):
        """Puts the thing under this name, or takes away what is there if it is None."""
        if thing is None:
            del self._things[name]
        else:
            self._things[name] = thing

    def note(self, word):
        """Notes by this word how many deeds stand now."""
        if not is_name(word):
            raise BadName(word)
        self._noted[word] = self._standing

    def notes(self):
        """(word, number) for all notes, ascending."""
        return tuple(sorted(self._noted.items()))

    def back(self, word):
        """Goes to where as many deeds stand as this word notes."""
        if not isinstance(word, str) or word not in self._noted:
            raise NoNote(word)
        self.stand_at(self._noted[word])

    def stand_at(self, number):
        """Undoes deeds, or does them again, until so many stand; there are so many."""
        while self._standing > number:
            self.undo()
        while self._standing < number:
            self.redo()

    def all_deeds(self):
        """The deeds that stand, and those that were undone, the one first that is the next to be done again."""
        return (tuple(self._deeds[:self._standing]), tuple(self._deeds[self._standing:]))


def desk_text(desk):
    """The journal of this desk."""
    standing, undone = desk.all_deeds()
    lines = [f"stand {len(standing)}"] + [f"note {word} {number}" for word, number in desk.notes()]
    for deed in standing + undone:
        lines.extend(deed_lines(deed))
    return "\n".join(lines)


def deed_lines(deed):
    """The lines of a deed in a journal."""
    texts = deed[-1].split("\n") if deed[0] in ("register", "table") else []
    parts = deed[:-1] + (len(texts),) if texts else deed
    return [" ".join([word for part in parts for word in part_words(part)])] + texts


def part_words(part):
    """The words of a part of a deed that is no text."""
    if isinstance(part, tuple):
        return [f"{one[0]}..{one[1]}" if isinstance(one, tuple) else str(one) for one in part]
    return ["-" if part == "" else str(part)]


def read_desk(text):
    """The desk with this journal."""
    if not isinstance(text, str):
        raise BadDesk(0)
    lines = text.split("\n")
    standing = number_in(lines[0].split(" "), "stand", 2)
    if standing is None:
        raise BadDesk(1)
    noted = notes_in(lines)
    desk = desk_with(lines, 1 + len(noted))
    deeds = desk.all_deeds()[0]
    for at, number in enumerate([standing] + [many for _, many in noted], start=1):
        if number > len(deeds):
            raise BadDesk(at)
    for number, word in sorted([(number, word) for word, number in noted]):
        desk.stand_at(number)
        desk.note(word)
    desk.stand_at(standing)
    return desk


def number_in(words, first, many):
    """The number behind so many words of a line, the first one being this; None without this form."""
    if len(words) != many or words[0] != first:
        return None
    number = integer_in(words[-1])
    return None if number is None or number < 0 else number


def notes_in(lines):
    """(word, number) for each line of a note behind the first line; raises BadDesk."""
    found = []
    for at, line in enumerate(lines[1:], start=2):
        words = line.split(" ")
        if words[0] != "note":
            break
        number = number_in(words, "note", 3)
        if number is None or not is_name(words[1]) or (found and found[-1][0] >= words[1]):
            raise BadDesk(at)
        found.append((words[1], number))
    return found


def desk_with(lines, start):
    """The desk with all deeds of these lines, the first one at the place start; raises BadDesk."""
    desk = Desk()
    at = start
    while at < len(lines):
        words = lines[at].split(" ")
        many = lines_behind(words)
        if many is None:
            raise BadDesk(at + 1)
        if at + many >= len(lines):
            raise BadDesk(len(lines) + 1)
        try:
            desk.lead(deed_in(desk, words, "\n".join(lines[at + 1:at + 1 + many])))
        except CrowdError:
            raise BadDesk(at + 1) from None
        at += 1 + many
    return desk


def lines_behind(words):
    """How many lines of a text stand behind the first line of a deed; None if that has not its form."""
    if words[0] not in ("register", "table"):
        return 0
    many = number_in(words, words[0], PARTS[words[0]] + 1)
    return many if many != 0 and all([is_name(word) for word in words[1:-1]]) else None


def deed_in(desk, words, text):
    """What the words of a line, and the text behind it, tell: no deed that can be done if they have not its form."""
    first, last = words[0], words[-1]
    if first in ("register", "table"):
        return tuple(words[:-1]) + (text,)
    if first == "strike":
        return tuple(words[:-1]) + (integer_in(last),)
    if first == "out" and last in ("", "-"):
        # Out is told by "-": an empty word tells nothing.
        return tuple(words[:-1]) + ("" if last == "-" else None,)
    if first in ("person", "row", "marks") and len(words) > 2:
        return deed_with_columns(desk.thing_of(words[1]), words)
    return tuple(words)


def deed_with_columns(thing, words):
    """What the words of a line tell that has values or marks for each column of this register, or table."""
    if isinstance(thing, Register):
        entry = person_in(thing.scales, words[2:])
        return None if entry is None else tuple(words[:2]) + entry
    if words[0] == "row":
        return tuple(words[:2]) + (marks_in(thing.census, words[2:-1]), words[-1])
    return tuple(words[:2]) + (integer_in(words[2]), marks_in(thing.census, words[3:]))
