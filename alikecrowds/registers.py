"""Registers: what is known of everybody."""

from alikecrowds.errors import BadColumns, BadKinds, BadPersons, BadRegister, NoColumn, NoKind, NoPerson
from alikecrowds.scales import Line, Tree, integer_in, is_name, is_tuple_of, values_stand

MOST_COLUMNS = 4
MOST_PERSONS = 60


class Draft:
    """What stands of a register so far; an entry is what stands for one line in its properties.

    scales has the scale of each column by its name, numbers the number of each person.
    """

    def __init__(self):
        self.columns = []
        self.kinds = []
        self.persons = []
        self.scales = {}
        self.numbers = {}

    def is_ready(self):
        """Whether there is a column, and no column of kinds lacks kinds."""
        bare = [scale for scale in self.scales.values() if isinstance(scale, Tree) and not scale.ups]
        return len(self.columns) > 0 and len(bare) == 0

    def add_column(self, entry):
        """Whether any value can be the next column; if so, it is added."""
        if self.kinds or self.persons or len(self.columns) >= MOST_COLUMNS or not is_tuple_of(entry, 2):
            return False
        name, word = entry
        if not is_name(name) or name in self.scales or word not in ("line", "kinds"):
            return False
        self.columns.append(entry)
        self.scales[name] = Line() if word == "line" else Tree()
        return True

    def add_kind(self, entry):
        """Whether any value can be the next kind; if so, it is added."""
        if self.persons or not is_tuple_of(entry, 4):
            return False
        column, name, up, loss = entry
        if not is_kinds_column(self.scales, column) or not self.scales[column].add_kind(name, up, loss):
            return False
        self.kinds.append(entry)
        return True

    def add_person(self, entry):
        """Whether any value can be the next person; if so, it is added."""
        if not self.is_ready() or len(self.persons) >= MOST_PERSONS or not is_tuple_of(entry, 2):
            return False
        name, values = entry
        if not is_name(name) or name in self.numbers or not values_stand(self.scales, values):
            return False
        self.numbers[name] = len(self.persons)
        self.persons.append(entry)
        return True

    def add_columns(self, entries):
        """Whether any value can be all columns; if so, they are added."""
        if not isinstance(entries, tuple):
            return False
        for entry in entries:
            if not self.add_column(entry):
                return False
        return len(entries) > 0

    def add_kinds(self, entries):
        """Whether any value can be all kinds; if so, they are added."""
        if not isinstance(entries, tuple):
            return False
        for entry in entries:
            if not self.add_kind(entry):
                return False
        return self.is_ready()

    def add_persons(self, entries):
        """Whether any value can be all persons; if so, they are added."""
        if not isinstance(entries, tuple):
            return False
        for entry in entries:
            if not self.add_person(entry):
                return False
        return True


class Register:
    """What is known of everybody, as this text tells it.

    Besides its properties it keeps scales and numbers, as a Draft does.
    """

    def __init__(self, text):
        draft = draft_in(text)
        self.text = text
        self.columns = tuple(draft.columns)
        self.kinds = tuple(draft.kinds)
        self.persons = tuple(draft.persons)
        self.scales = draft.scales
        self.numbers = draft.numbers

    def __eq__(self, other):
        return isinstance(other, Register) and self.text == other.text

    def __len__(self):
        return len(self.persons)


def draft_in(text):
    """The draft with all lines of a text of a register; raises BadRegister."""
    if not isinstance(text, str):
        raise BadRegister(0)
    draft = Draft()
    lines = text.split("\n")
    for number, line in enumerate(lines, start=1):
        if not add_line(draft, line.split(" ")):
            raise BadRegister(number)
    if not draft.is_ready():
        raise BadRegister(len(lines) + 1)
    return draft


def add_line(draft, words):
    """Whether the line with these words can be the next one; if so, it is added."""
    if words[0] == "column":
        return draft.add_column(tuple(words[1:]))
    if words[0] == "kind":
        return draft.add_kind(kind_in(words[1:]))
    if words[0] == "person":
        return draft.add_person(person_in(draft.scales, words[1:]))
    return False


def kind_in(words):
    """The entry that the words behind `kind` write: None if they have not its form."""
    if len(words) != 4:
        return None
    column, name, up, loss = words
    return (column, name, None if up == "none" else up, integer_in(loss))


def person_in(scales, words):
    """The entry that the words behind `person` write: None if they have not its form."""
    if len(words) != len(scales) + 1:
        return None
    values = [scale.value_in(word) for scale, word in zip(scales.values(), words[1:])]
    return (words[0], tuple(values))


def register_text(columns, kinds, persons):
    """The text of the register with these properties."""
    draft = Draft()
    if not draft.add_columns(columns):
        raise BadColumns(columns)
    if not draft.add_kinds(kinds):
        raise BadKinds(kinds)
    if not draft.add_persons(persons):
        raise BadPersons(persons)
    lines = [f"column {name} {word}" for name, word in columns]
    for column, name, up, loss in kinds:
        up_word = "none" if up is None else up
        lines.append(f"kind {column} {name} {up_word} {loss}")
    for name, values in persons:
        lines.append(" ".join(["person", name] + [str(value) for value in values]))
    return "\n".join(lines)


def is_kinds_column(scales, column):
    """Whether any value is the name of a column of kinds; scales is a dict by names."""
    return isinstance(column, str) and isinstance(scales.get(column), Tree)


def scale_of(census, column):
    """The scale of this column; raises NoColumn."""
    if not isinstance(column, str) or column not in census.scales:
        raise NoColumn(column)
    return census.scales[column]


def tree_of(census, column):
    """The scale of this column of kinds; raises NoColumn for a line, too."""
    if not is_kinds_column(census.scales, column):
        raise NoColumn(column)
    return census.scales[column]


def column_number(census, name):
    """The number of the column with this name."""
    scale_of(census, name)
    return list(census.scales.keys()).index(name)


def person_number(census, name):
    """The number of the person with this name."""
    if not isinstance(name, str) or name not in census.numbers:
        raise NoPerson(name)
    return census.numbers[name]


def kinds_of(census, column):
    """The names of the kinds of this column, as they stand."""
    return tuple(tree_of(census, column).ups.keys())


def above(census, column, kind):
    """This kind, the one directly above it, and so on, up to the top."""
    tree = tree_of(census, column)
    if not tree.is_value(kind):
        raise NoKind(kind)
    return tree.ups[kind]


def is_below(census, column, one, other):
    """Whether one is other, or stands below it."""
    ups = above(census, column, one)
    if not tree_of(census, column).is_value(other):
        raise NoKind(other)
    return other in ups


def lowest_above(census, column, kinds):
    """The lowest kind that all these kinds are below."""
    tree = tree_of(census, column)
    if not isinstance(kinds, tuple) or not kinds or not all([tree.is_value(kind) for kind in kinds]):
        raise BadKinds(kinds)
    return tree.least(kinds)


def loss_of(census, column, kind):
    """The loss of this kind."""
    tree = tree_of(census, column)
    if not tree.is_value(kind):
        raise NoKind(kind)
    return tree.losses[kind]
