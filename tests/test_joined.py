"""Point 13: two tables together, beside a slow way through all worlds of both."""

import itertools
import math
import random

from alikecrowds.errors import BadColumns, BadSecret, NoJoint, NoPerson, OtherRegister, TooMany
from alikecrowds.joined import a_joint, columns_alone, joint_can, joint_many, joint_secrets, newly_known, shows_joint
from alikecrowds.joined import shows_joint_can, table_alone
from alikecrowds.registers import Register
from alikecrowds.tables import Table, fits
from alikecrowds.telling import sure_told
from alikecrowds.worlds import a_world, is_world
from samples import CrowdCase, anything, joined, sample_register, sample_table
from slow import SECRETS, Slow, line_table, near

FOUR = ["column age line", "column home kinds", "column size line", "column food kinds", "kind food any none 3",
        "kind home all none 9", "kind food meat any 1", "kind home north all 4", "kind food ham meat 1"]
FOUR_PERSONS = ["person ann 1 north 7 ham", "person bob 2 all 8 any"]
NO_SECRETS = ["Flu", "flu ", "a" * 13, "-", "flu\n", b"flu", ("flu",), 0, 1, True]


def sample_pair():
    table = line_table((30, 40, 50), (30, 40, "flu"), (40, 50, "cold"))
    return table, Table(table.census, "row 30..50 flu\nrow 30..40 cold")


def drawn_pair(dice):
    """Two tables for one register of few persons: each row is drawn for a person, mostly with their secret."""
    ages = [dice.randint(0, 4) for _ in range(dice.randint(0, 5))]
    secrets = [dice.choice(SECRETS) for _ in ages]
    found = []
    for _ in range(2):
        rows = []
        for person in dice.sample(range(len(ages)), dice.randint(0, min(3, len(ages)))):
            low, high = ages[person] - dice.choice([0, 0, 1, 2]), ages[person] + dice.choice([0, 0, 1, 2])
            secret = secrets[person] if dice.random() < 0.7 else dice.choice(SECRETS)
            rows.append((low, high, secret))
        found.append(line_table(ages, *rows))
    return found


class SlowPair:
    def __init__(self, table, other):
        self.one, self.other = Slow(table), Slow(other)
        self.names = self.one.names
        self.pairs = [(world, its) for world in self.one.worlds for its in self.other.worlds
                      if all(self.agree(person, world, its) for person in self.one.persons)]

    def secrets(self, person, world, its):
        """What the person has in both worlds: of those they are not out of."""
        found = [slow.secrets[way.index(person)] for slow, way in ((self.one, world), (self.other, its))
                 if person in way]
        return sorted(set(found)) or [""]

    def agree(self, person, world, its):
        return len(self.secrets(person, world, its)) == 1

    def has(self, person, secret):
        return [(world, its) for world, its in self.pairs if self.secrets(person, world, its) == [secret]]

    def has_any(self, person):
        return tuple(sorted({secret for world, its in self.pairs for secret in self.secrets(person, world, its)}))

    def alone(self, person):
        """All that worlds of both let this person have, looked at for them alone."""
        return {self.secrets(person, world, its)[0] for world in self.one.worlds for its in self.other.worlds
                if self.agree(person, world, its)}

    def newly_known(self):
        return tuple(sorted([(person, secret) for person in self.one.persons
                             for secret in self.alone(person) - set(self.has_any(person))]))


def drawn_pairs(seed, many):
    dice = random.Random(seed)
    tables = [drawn_pair(dice) for _ in range(many)]
    return [(table, other, SlowPair(table, other)) for table, other in tables]


class BesideSlow(CrowdCase):
    def test_joint_worlds(self):
        none = 0
        for table, other, slow in drawn_pairs(131, 300):
            self.check(joint_many(table, other), len(slow.pairs))
            self.check(joint_many(other, table), len(slow.pairs))
            found = a_joint(table, other)
            none += not slow.pairs
            self.assertIn(repr(found), [repr(pair) for pair in slow.pairs or [None]])
            self.check(shows_joint(table, other, found), True)
            for world, its in itertools.product(slow.one.worlds, slow.other.worlds):
                self.check(shows_joint(table, other, (world, its)), (world, its) in slow.pairs)
        self.assertTrue(10 < none < 290, none)

    def test_values_near_to_joint_worlds(self):
        for table, other, slow in drawn_pairs(132, 80):
            rights = [repr(pair) for pair in slow.pairs or [None]]
            for value in near(a_joint(table, other)) + anything():
                self.check(shows_joint(table, other, value), repr(value) in rights)

    def test_secrets(self):
        for table, other, slow in drawn_pairs(133, 300):
            for person, name in enumerate(slow.names if slow.pairs else []):
                self.check(joint_secrets(table, other, name), slow.has_any(person))

    def test_what_can_be(self):
        for table, other, slow in drawn_pairs(134, 150):
            for (person, name), secret in itertools.product(enumerate(slow.names), SECRETS + ["", "other"]):
                rights = slow.has(person, secret)
                found = joint_can(table, other, name, secret)
                self.assertIn(repr(found), [repr(pair) for pair in rights or [None]])
                for pair in slow.pairs + [None]:
                    wanted = pair in (rights or [None])
                    self.check(shows_joint_can(table, other, name, secret, pair), wanted)

    def test_values_near_to_what_can_be(self):
        for table, other, slow in drawn_pairs(135, 40):
            for person, name in enumerate(slow.names[:2]):
                for secret in ("flu", ""):
                    rights = [repr(pair) for pair in slow.has(person, secret) or [None]]
                    for value in near(joint_can(table, other, name, secret)) + anything():
                        wanted = repr(value) in rights
                        self.check(shows_joint_can(table, other, name, secret, value), wanted)

    def test_what_is_newly_known(self):
        found = 0
        for table, other, slow in drawn_pairs(136, 300):
            if slow.pairs:
                self.check(newly_known(table, other), slow.newly_known())
                self.check(newly_known(other, table), slow.newly_known())
                found += len(slow.newly_known()) > 0
        self.assertGreater(found, 5)

    def test_no_joint_world(self):
        for table, other, slow in drawn_pairs(137, 100):
            if not slow.pairs:
                self.check((a_joint(table, other), joint_many(table, other)), (None, 0))
                self.check_number(NoJoint, None, newly_known, table, other)
                for name in slow.names:
                    self.check_number(NoJoint, None, joint_secrets, table, other, name)
                    self.check(joint_can(table, other, name, "flu"), None)

    def test_equal_calls(self):
        for table, other, _ in drawn_pairs(138, 20):
            wanted = (a_joint(table, other), joint_many(table, other))
            again = [Table(Register(one.census.text), one.text) for one in (table, other)]
            self.check((a_joint(*again), joint_many(*again)), wanted)


class Edges(CrowdCase):
    def test_without_rows(self):
        for persons in ((), (1, 2)):
            table = line_table(persons)
            self.check((joint_many(table, table), a_joint(table, table), newly_known(table, table)), (1, ((), ()), ()))
        self.check((joint_secrets(table, table, "p0"), joint_can(table, table, "p0", "flu")), (("",), None))
        self.check(joint_can(table, table, "p1", ""), ((), ()))

    def test_both_tell_together(self):
        # By each table alone both could have either; together the first one is sick.
        table = line_table((1, 2), (1, 2, "flu"), (1, 2, "cold"))
        other = Table(table.census, "row 1..1 flu")
        self.check((joint_many(table, other), newly_known(table, other)), (1, ((1, "flu"),)))
        self.check((joint_secrets(table, other, "p0"), joint_secrets(table, other, "p1")), (("flu",), ("cold",)))

    def test_who_is_out_of_neither(self):
        both = Register("column age line\ncolumn in line\nperson p0 1 1\nperson p1 1 2\nperson p2 2 1")
        table = Table(both, "row 1..1 1..2 flu\nrow 1..1 1..2 cold\nrow 2..2 1..1 cold")
        other = Table(both, "row 1..2 1..1 flu\nrow 1..2 1..1 cold")
        self.check(newly_known(table, other), ((0, "cold"), (1, "flu")))

    def test_several_secrets_of_one_person(self):
        table = line_table(range(5), (1, 3, "c"), (4, 4, "b"), (2, 4, "a"))
        other = Table(table.census, "row 3..4 c\nrow 1..2 b")
        found = newly_known(table, other)
        self.check(found, SlowPair(table, other).newly_known())
        self.check([secret for person, secret in found if person == 2], ["", "b", "c"])

    def test_great_registers(self):
        for secrets in (["flu"] * 5, [f"s{at}" for at in range(5)]):
            table = line_table([1] * 60, *[(1, 1, secret) for secret in secrets])
            other = line_table([1] * 60, *[(1, 1, f"s{at}") for at in range(5)])
            wanted = math.perm(60, 5) * math.perm(55, 5)
            if secrets[0] != "flu":
                # So many of the five are the same person in both tables.
                wanted = sum([math.comb(5, same) * math.perm(60, 10 - same) for same in range(6)])
            self.check((joint_many(table, other), newly_known(table, other)), (wanted, ()))
            every = sorted(set(["", "s0", "s1", "s2", "s3", "s4"] + secrets))
            self.check(joint_secrets(table, other, "p59"), tuple(every))
            found = joint_can(table, other, "p30", "s3")
            self.check(shows_joint_can(table, other, "p30", "s3", found), True)
            self.check(shows_joint(table, other, found), True)

    def test_five_rows_alone(self):
        # Each row is that of the person on its left or on its right.
        table = line_table(range(6), *[(at, at + 1, f"s{at}") for at in range(5)])
        slow = SlowPair(table, table)
        self.check(joint_many(table, table), len(slow.pairs))
        self.check([joint_secrets(table, table, name) for name in slow.names],
                   [slow.has_any(person) for person in slow.one.persons])


class Columns(CrowdCase):
    def census(self):
        return Register(joined(FOUR, FOUR_PERSONS))

    def test_all_choices(self):
        census = self.census()
        table = Table(census, "row 1..2 all 7..8 meat flu\nrow 2..2 all 8..9 any cold")
        names = [name for name, _ in census.columns]
        for many in range(1, 5):
            for chosen in itertools.combinations(names, many):
                alone = columns_alone(census, chosen)
                self.check(alone.columns, tuple([column for column in census.columns if column[0] in chosen]))
                self.check(alone.kinds, tuple([kind for kind in census.kinds if kind[0] in chosen]))
                for (name, values), (its, own) in zip(census.persons, alone.persons):
                    self.check((its, own), (name, tuple([values[names.index(column)] for column in chosen])))
                self.check(alone.text == Register(alone.text).text, True)
                narrow = table_alone(table, chosen)
                self.check(narrow.census == alone, True)
                for (marks, secret), (its, own) in zip(table.rows, narrow.rows):
                    self.check((its, own), (tuple([marks[names.index(column)] for column in chosen]), secret))
                self.check(len(narrow), len(table))
        self.check(columns_alone(census, tuple(names)) == census, True)
        self.check(table_alone(table, tuple(names)) == table, True)

    def test_with_fewer_columns_all_worlds_stay(self):
        dice = random.Random(139)
        for _ in range(60):
            census = Register(joined(FOUR, [f"person p{at} {dice.randint(0, 2)} {dice.choice(['north', 'all'])} 0 ham"
                                            for at in range(4)]))
            rows = [f"row {dice.randint(-1, 1)}..{dice.randint(1, 2)} {dice.choice(['north', 'all'])} 0..0 any s{at}"
                    for at in range(dice.randint(0, 4))]
            table = Table(census, "\n".join(rows))
            for chosen in (("age",), ("home",), ("age", "food"), ("home", "size")):
                narrow = table_alone(table, chosen)
                slow = Slow(table)
                self.assertTrue(set(slow.worlds) <= set(Slow(narrow).worlds))
                self.assertTrue(all([fits(narrow, slow.names[person], row) for person, row in slow.fitting]))
                if slow.worlds:
                    self.assertTrue(set(sure_told(narrow, ())) <= set(sure_told(table, ())))

    def test_without_persons(self):
        census = Register(joined(FOUR))
        self.check(columns_alone(census, ("home",)).text, joined("column home kinds", "kind home all none 9",
                                                               "kind home north all 4"))
        self.check(table_alone(Table(census, ""), ("size",)).census.text, "column size line")

    def test_bad_columns(self):
        wrong = [["age"], (), ("home", "age"), ("age", "age"), ("age", "none"), ("age", "all"), ("ann",), (0,), "age",
                 ("age", None), (("age",),), ("age", ["home"]), ("age", "home", "age"), {"age": 1}, ("age ",)]
        for names in wrong + [value for value in anything() if value != ("age",)]:
            self.check_raises(BadColumns, names, columns_alone, self.census(), names)
            self.check_raises(BadColumns, names, columns_alone, sample_register(), names)
            self.check_raises(BadColumns, names, table_alone, sample_table(), names)


class WrongInputs(CrowdCase):
    def pairs(self):
        """Pairs of tables with each wrong thing behind a person, and with several of them."""
        table, other = sample_pair()
        more = line_table((30, 40, 51), (30, 40, "flu"))
        six = line_table([1] * 7, *[(1, 1, "flu")] * 6)
        torn = line_table([1, 2], (1, 1, "flu"), (1, 1, "cold"))
        return table, other, more, six, torn

    def late(self, table, other, name, secret):
        """All calls with these, without those that take no secret."""
        return [(joint_can, table, other, name, secret), (shows_joint_can, table, other, name, secret, None)]

    def early(self, table, other):
        return [(joint_many, table, other), (a_joint, table, other), (shows_joint, table, other, None),
                (newly_known, table, other)]

    def test_no_person_comes_first(self):
        table, other, more, six, torn = self.pairs()
        for one, two in ((table, other), (table, more), (six, six), (torn, torn), (six, torn)):
            for name in anything() + ["p9", "age", 0]:
                self.check_raises(NoPerson, name, joint_secrets, one, two, name)
                for secret in (None, "flu"):
                    for call, *parts in self.late(one, two, name, secret):
                        self.check_raises(NoPerson, name, call, *parts)
        # The person has to be one of the register of the first table.
        self.check_number(NoPerson, "p3", joint_secrets, table, six, "p3")
        self.check_number(OtherRegister, None, joint_secrets, six, table, "p3")

    def test_then_other_register(self):
        table, other, more, six, torn = self.pairs()
        for one, two in ((table, more), (six, torn), (torn, six), (more, other)):
            for call, *parts in self.early(one, two) + self.late(one, two, "p0", None):
                self.check_number(OtherRegister, None, call, *parts)
            self.check_number(OtherRegister, None, joint_secrets, one, two, "p0")
        same = Table(Register(table.census.text), other.text)
        self.check(joint_many(table, same), 4)

    def test_then_bad_secret(self):
        table, other, _, six, torn = self.pairs()
        for one, two in ((table, other), (six, six), (torn, torn)):
            for secret in NO_SECRETS + [value for value in anything() if value != ""]:
                for call, *parts in self.late(one, two, "p0", secret):
                    self.check_raises(BadSecret, secret, call, *parts)

    def test_then_too_many_rows(self):
        table = line_table([1] * 8, *[(1, 1, "flu")] * 5)
        six, seven = [Table(table.census, "\n".join(["row 1..1 flu"] * many)) for many in (6, 7)]
        torn = Table(table.census, "\n".join(["row 2..2 flu"] * 6))
        for one, two, many in ((six, table, 6), (table, seven, 7), (six, seven, 6), (seven, six, 7), (torn, table, 6)):
            for call, *parts in self.early(one, two) + self.late(one, two, "p0", "flu"):
                self.check_number(TooMany, many, call, *parts)
            self.check_number(TooMany, many, joint_secrets, one, two, "p0")
        self.assertGreater(joint_many(table, table), 0)

    def test_no_joint_comes_last(self):
        table, other, _, _, torn = self.pairs()
        for call, *parts in ((newly_known, torn, torn), (joint_secrets, torn, torn, "p0")):
            self.check_number(NoJoint, None, call, *parts)
        # Both have worlds, but one person would have two secrets.
        one, two = line_table((1,), (1, 1, "flu")), line_table((1,), (1, 1, "cold"))
        self.check((a_world(one)[0], is_world(two, (0,)), joint_many(one, two)), ("world", True, 0))
        self.check_number(NoJoint, None, newly_known, one, two)
        self.check_number(NoJoint, None, joint_secrets, one, two, "p0")
        self.check((shows_joint(one, two, None), shows_joint(one, two, ((0,), (0,)))), (True, False))
        self.check(shows_joint(table, other, None), False)
