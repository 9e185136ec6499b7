"""What several tests need: a case with strict checks, wrong values, and sample texts."""

import unittest

from alikecrowds.errors import CrowdError
from alikecrowds.registers import Register
from alikecrowds.tables import Table

HEAD = [
    "column age line",
    "column home kinds",
    "kind home all none 9",
    "kind home north all 4",
    "kind home pole north 0",
    "kind home south all 1",
]
PERSONS = ["person ann 31 pole", "person bob -2 north", "person cid 40 south"]
ROWS = ["row -5..31 north flu", "row 31..40 all cold", "row 31..40 all flu"]


def joined(*parts):
    """The text with these lines; a part is a line or a list of lines."""
    lines = []
    for part in parts:
        lines += [part] if isinstance(part, str) else part
    return "\n".join(lines)


def sample_register():
    return Register(joined(HEAD, PERSONS))


def sample_table():
    return Table(sample_register(), joined(ROWS))


def nested(depth):
    """A tuple, list and dict in each other, so deep."""
    value = 0
    for level in range(depth):
        value = [(value,), [value], {"a": value}][level % 3]
    return value


def anything():
    """Values of all kinds that Conventions tell of: none of them is a name, a row or a mark."""
    return [
        None, True, False, -1, 10 ** 39, -(10 ** 39), "", " ", "A", "a b", "\n", "\t",
        (), [], {}, ((),), [()], (None,), [None], {"a": 1}, (True, False), [0, 1], ["ann"],
        ("ann",), ("age",), ["age"], nested(60), sample_register(), sample_table(),
    ]


def parts_of(value):
    """The value with the classes of all its parts, so that True is not 1, and a list no tuple."""
    if isinstance(value, (tuple, list)):
        return (type(value), [parts_of(part) for part in value])
    return (type(value), value)


class CrowdCase(unittest.TestCase):
    def check(self, found, wanted):
        """found is wanted, and of the same classes throughout."""
        self.assertEqual(parts_of(found), parts_of(wanted))

    def check_raises(self, error, value, call, *parts):
        """The call raises this very class of error, and that keeps this very value."""
        with self.assertRaises(CrowdError) as caught:
            call(*parts)
        self.assertIs(type(caught.exception), error)
        self.assertIs(caught.exception.value, value)

    def check_number(self, error, number, call, *parts):
        """The call raises this very class of error, and that tells this number."""
        with self.assertRaises(CrowdError) as caught:
            call(*parts)
        self.assertIs(type(caught.exception), error)
        self.check(caught.exception.value, number)
