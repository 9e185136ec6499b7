"""What may stand in a column: the values and the marks of a line, or of kinds in a tree.

A scale is a Line or a Tree. Both have the same methods for values and marks, so that
nobody need ask which of both a column is. A word is a part of a line of a text.
"""

SIGNS = "abcdefghijklmnopqrstuvwxyz0123456789"
FIGURES = "0123456789"
MOST_SIGNS = 12
MOST_FIGURES = 9
FARTHEST = 1000000
MOST_LOSS = 1000000
MOST_KINDS = 60


def is_integer(value):
    """Whether any value is an integer: a bool is none."""
    return isinstance(value, int) and not isinstance(value, bool)


def is_number_below(many, value):
    """Whether any value is an integer from 0 on, less than many."""
    return is_integer(value) and 0 <= value < many


def is_ascending(parts):
    """Whether each of these parts is greater than the one before it."""
    return all([one < other for one, other in zip(parts, parts[1:])])


def is_lot_below(many, value):
    """Whether any value is an ascending tuple of numbers less than many, none or more."""
    if not isinstance(value, tuple) or not all([is_number_below(many, number) for number in value]):
        return False
    return is_ascending(value)


def is_name(value):
    """Whether any value is a name, as those of columns, kinds, persons, and as secrets."""
    if not isinstance(value, str) or not 1 <= len(value) <= MOST_SIGNS:
        return False
    return all([sign in SIGNS for sign in value])


def is_tuple_of(value, many):
    """Whether any value is a tuple of so many parts."""
    return isinstance(value, tuple) and len(value) == many


def integer_in(word):
    """The integer that this word writes, None if Python does not write one so."""
    figures = word[1:] if word.startswith("-") else word
    # int() would take "_", "+" and blanks, and fail for very many figures.
    if not 1 <= len(figures) <= MOST_FIGURES or not all([sign in FIGURES for sign in figures]):
        return None
    number = int(word)
    return number if str(number) == word else None


def values_stand(scales, values):
    """Whether any value is a tuple with a value for each column; scales is a dict by names."""
    if not is_tuple_of(values, len(scales)):
        return False
    return all([scale.is_value(value) for scale, value in zip(scales.values(), values)])


def marks_stand(scales, marks):
    """Whether any value is a tuple with a mark for each column; scales is a dict by names."""
    if not is_tuple_of(marks, len(scales)):
        return False
    return all([scale.is_mark(mark) for scale, mark in zip(scales.values(), marks)])


def is_line_value(value):
    """Whether any value is a value of a line."""
    return is_integer(value) and -FARTHEST <= value <= FARTHEST


class Line:
    """The scale of a line: its values are integers, its marks pairs (low, high)."""

    def is_value(self, value):
        """Whether any value is a value of the line."""
        return is_line_value(value)

    def is_mark(self, mark):
        """Whether any value is a mark of the line."""
        if not is_tuple_of(mark, 2):
            return False
        low, high = mark
        return self.is_value(low) and self.is_value(high) and low <= high

    def value_in(self, word):
        """What this word writes: no value if it is no word of one."""
        return integer_in(word)

    def mark_in(self, word):
        """What this word writes: no mark if it is no word of one."""
        return tuple([integer_in(part) for part in word.split("..")])

    def mark_word(self, mark):
        """The word that writes this mark."""
        low, high = mark
        return f"{low}..{high}"

    def covers(self, mark, value):
        """Whether the mark covers the value."""
        low, high = mark
        return low <= value <= high

    def is_finer(self, one, other):
        """Whether other covers all that one covers."""
        return other[0] <= one[0] and one[1] <= other[1]

    def joined(self, one, other):
        """The finest mark that covers all that both cover."""
        return (min(one[0], other[0]), max(one[1], other[1]))

    def common(self, one, other):
        """The mark of what both cover, None if that is nothing."""
        low = max(one[0], other[0])
        high = min(one[1], other[1])
        return (low, high) if low <= high else None

    def least(self, values):
        """The finest mark that covers these values, one at least."""
        return (min(values), max(values))

    def loss(self, mark):
        """How much is lost of whom only this mark is told."""
        low, high = mark
        return high - low


class Tree:
    """The scale of a column of kinds: its values, and its marks, are its kinds.

    ups has for each kind, in their order, the tuple of it and of all above it, up to the
    top; losses has the loss of each.
    """

    def __init__(self):
        self.ups = {}
        self.losses = {}

    def add_kind(self, name, up, loss):
        """Whether this can be the next kind, up being the one above it; if so, it is added."""
        if not is_name(name) or name == "none" or name in self.ups or len(self.ups) >= MOST_KINDS:
            return False
        if not is_integer(loss) or not 0 <= loss <= MOST_LOSS or not self._can_be_up(up, loss):
            return False
        self.ups[name] = (name,) if up is None else (name,) + self.ups[up]
        self.losses[name] = loss
        return True

    def _can_be_up(self, up, loss):
        """Whether any value can stand above the next kind, which has this loss."""
        if not self.ups:
            return up is None
        return self.is_value(up) and loss <= self.losses[up]

    def is_value(self, value):
        """Whether any value is a kind."""
        return isinstance(value, str) and value in self.ups

    def is_mark(self, mark):
        """Whether any value is a kind."""
        return self.is_value(mark)

    def value_in(self, word):
        """What this word writes: no value if it is no word of one."""
        return word

    def mark_in(self, word):
        """What this word writes: no mark if it is no word of one."""
        return word

    def mark_word(self, mark):
        """The word that writes this mark."""
        return mark

    def covers(self, mark, value):
        """Whether the mark covers the value."""
        return mark in self.ups[value]

    def is_finer(self, one, other):
        """Whether other covers all that one covers."""
        # one covers itself, and what is below one is below all that is above it.
        return other in self.ups[one]

    def joined(self, one, other):
        """The finest mark that covers all that both cover."""
        return self.least((one, other))

    def common(self, one, other):
        """The mark of what both cover, None if that is nothing."""
        if self.is_finer(one, other):
            return one
        return other if self.is_finer(other, one) else None

    def least(self, values):
        """The finest mark that covers these kinds, one at least."""
        shared = self.ups[values[0]]
        for kind in sorted(set(values)):
            shared = [up for up in shared if up in self.ups[kind]]
        return shared[0]

    def loss(self, mark):
        """How much is lost of whom only this mark is told."""
        return self.losses[mark]
