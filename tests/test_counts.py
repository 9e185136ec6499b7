"""Point 8: worlds counted, beside a slow way that goes through all of them."""

import itertools
import math
import random
from fractions import Fraction

from alikecrowds.counts import nth_world, number_of, share, shares, surest, worlds_many, worlds_with
from alikecrowds.errors import BadNumber, BadSecret, BadWorld, NoPerson, NoRow, NoWorld, TooMany
from alikecrowds.registers import Register
from alikecrowds.tables import Table
from samples import CrowdCase, anything
from slow import SECRETS, DrawnCase, line_table

NO_SECRETS = ["Flu", "flu ", " flu", "a" * 13, "fl_u", "-", "flu\n", "\n", b"flu", ("flu",), 0, 1]


def sample():
    return line_table((30, 40, 50), (30, 40, "flu"), (30, 50, "cold"))


def torn():
    """Three persons, two of whom three rows fit."""
    return line_table((30, 34, 41), (30, 34, "flu"), (30, 34, "cold"), (34, 34, "none"))


def wide(persons, rows, secret="flu"):
    """A table whose rows all fit all persons."""
    return line_table([1] * persons, *[(1, 1, secret)] * rows)


def torn_wide(rows):
    """So many rows, two of which fit one person alone."""
    return line_table([1] * rows + [2], *[(1, 1, "flu")] * (rows - 2), (2, 2, "cold"), (2, 2, "flu"))


class Counts(CrowdCase):
    def test_the_sample(self):
        table = sample()
        worlds = [(0, 1), (0, 2), (1, 0), (1, 2)]
        self.check(worlds_many(table), 4)
        self.check([nth_world(table, number) for number in range(4)], worlds)
        self.check([number_of(table, world) for world in worlds], [0, 1, 2, 3])
        self.check([worlds_with(table, "p0", row) for row in (0, 1)], [2, 1])
        self.check([worlds_with(table, "p2", row) for row in (0, 1)], [0, 2])
        told = {("p0", "flu"): (1, 2), ("p0", "cold"): (1, 4), ("p0", ""): (1, 4), ("p2", "flu"): (0, 1)}
        for (name, secret), wanted in told.items():
            self.check(share(table, name, secret), wanted)
        self.check(shares(table, "p2"), (("", 1, 2), ("cold", 1, 2)))
        self.check(surest(table), (1, 2, 0, "flu"))

    def test_without_rows(self):
        for persons in ((), (1, 2)):
            table = line_table(persons)
            self.check((worlds_many(table), nth_world(table, 0), number_of(table, ()), surest(table)), (1, (), 0, None))
        self.check((shares(table, "p1"), share(table, "p1", ""), share(table, "p1", "flu")),
                   ((("", 1, 1),), (1, 1), (0, 1)))
        self.check_number(BadNumber, 1, nth_world, table, 1)

    def test_several_rows_with_one_secret_count_together(self):
        table = line_table((1, 1, 2), (1, 1, "flu"), (1, 1, "flu"), (2, 2, "cold"))
        self.check((shares(table, "p0"), worlds_with(table, "p0", 0)), ((("flu", 1, 1),), 1))
        self.check((shares(table, "p2"), surest(table)), ((("cold", 1, 1),), (1, 1, 0, "flu")))

    def test_secrets_that_no_row_has(self):
        for secret in ("gout", "a", "9", "a" * 12, "z0", "none", "p0"):
            self.check(share(sample(), "p0", secret), (0, 1))

    def test_surest_of_several(self):
        table = line_table((1, 1), (1, 1, "b"), (1, 1, "a"))
        self.check(surest(table), (1, 2, 0, "a"))
        table = line_table((3, 2, 2), (2, 2, "b"), (2, 2, "a"))
        self.check((surest(table), share(table, "p0", "")), ((1, 2, 1, "a"), (1, 1)))
        table = line_table((1, 1, 2), (1, 1, "b"), (1, 1, "c"), (2, 2, "z"))
        self.check(surest(table), (1, 1, 2, "z"))

    def test_a_share_near_one_with_many_worlds(self):
        table = line_table([1] + [2] * 8, (1, 2, "flu"), *[(1, 1, "cold")], *[(2, 2, "flu")] * 7)
        self.check(worlds_many(table), math.factorial(8))
        self.check(surest(table), (1, 1, 0, "cold"))

    def test_no_world(self):
        table = torn()
        self.check((worlds_many(table), worlds_with(table, "p0", 0), worlds_with(table, "p2", 0)), (0, 0, 0))


class Many(CrowdCase):
    def test_ten_rows_are_not_too_many(self):
        table = wide(60, 10)
        many = math.perm(60, 10)
        self.check((worlds_many(table), worlds_with(table, "p59", 9)), (many, many // 60))
        self.check((nth_world(table, 0), nth_world(table, many - 1)),
                   (tuple(range(10)), tuple(range(59, 49, -1))))
        self.check((number_of(table, tuple(range(10))), number_of(table, tuple(range(59, 49, -1)))), (0, many - 1))
        self.check((share(table, "p7", "flu"), share(table, "p7", "")), ((1, 6), (5, 6)))
        self.check(surest(table), (1, 6, 0, "flu"))
        self.check_number(BadNumber, many, nth_world, table, many)
        dice = random.Random(81)
        for _ in range(5):
            number = dice.randrange(many)
            self.check(number_of(table, nth_world(table, number)), number)

    def test_a_long_chain_of_rows(self):
        # Each row is that of the person on its left or on its right: one of eleven is out.
        table = line_table(range(11), *[(low, low + 1, f"s{low}") for low in range(10)])
        worlds = [tuple(person + (person >= out) for person in range(10)) for out in range(11)]
        self.check([nth_world(table, number) for number in range(11)], sorted(worlds))
        self.check((worlds_many(table), worlds_with(table, "p3", 3), worlds_with(table, "p3", 2)), (11, 7, 3))
        self.check((shares(table, "p3"), surest(table)),
                   ((("", 1, 11), ("s2", 3, 11), ("s3", 7, 11)), (10, 11, 0, "s0")))

    def test_eleven_rows_are_too_many(self):
        for table in (wide(11, 11), wide(60, 60), torn_wide(11)):
            many = len(table)
            for call in (worlds_many, surest):
                self.check_number(TooMany, many, call, table)
            self.check_number(TooMany, many, worlds_with, table, "p0", 10)
            self.check_number(TooMany, many, share, table, "p0", "")
            self.check_number(TooMany, many, shares, table, "p0")
            for number in (0, -1, None, math.factorial(60)):
                self.check_number(TooMany, many, nth_world, table, number)
        self.check_number(TooMany, 11, number_of, wide(11, 11), tuple(range(11)))
        self.check_number(TooMany, 60, number_of, wide(60, 60), tuple(reversed(range(60))))


class BesideSlow(DrawnCase):
    """Tables that are drawn: with a world, and without one."""

    def test_how_many(self):
        for table, slow in self.drawn(21, 200):
            self.check(worlds_many(table), len(slow.worlds))
            for person, name in enumerate(slow.names):
                for row in slow.rows:
                    many = len([world for world in slow.worlds if world[row] == person])
                    self.check(worlds_with(table, name, row), many)
                    self.check(many > 0, slow.can(person, row))

    def test_numbers(self):
        for table, slow in self.drawn(22, 100, 5, 4):
            for number, world in enumerate(slow.worlds):
                self.check((nth_world(table, number), number_of(table, world)), (world, number))
            for world in itertools.permutations(slow.persons, len(table)):
                if world not in slow.worlds:
                    self.check_raises(BadWorld, world, number_of, table, world)
            if slow.worlds:
                for number in (-1, len(slow.worlds), len(slow.worlds) + 10 ** 39):
                    self.check_raises(BadNumber, number, nth_world, table, number)

    def test_shares(self):
        for table, slow in self.drawn(23, 200):
            total = len(slow.worlds)
            for person, name in enumerate(slow.names if total else []):
                wanted = []
                for secret in sorted(["", "other"] + SECRETS):
                    part = Fraction(slow.has(person, secret), total)
                    self.check(share(table, name, secret), (part.numerator, part.denominator))
                    wanted += [(secret, part.numerator, part.denominator)] if part else []
                self.check(shares(table, name), tuple(wanted))
                self.check(share(table, name, "") == (0, 1), not slow.can_be_out(person))

    def test_surest(self):
        for table, slow in self.drawn(24, 200):
            total = len(slow.worlds)
            if total:
                found = [(-Fraction(slow.has(person, secret), total), person, secret)
                         for person in slow.persons for secret in sorted(set(slow.secrets))]
                wanted = None
                if len(table):
                    part, person, secret = min(found)
                    wanted = (-part.numerator, part.denominator, person, secret)
                self.check(surest(table), wanted)

    def test_shares_add_up(self):
        for table, slow in self.drawn(25, 100):
            if slow.worlds:
                for name in slow.names:
                    self.assertEqual(sum([Fraction(top, bottom) for _, top, bottom in shares(table, name)]), 1)
                for secret in SECRETS:
                    parts = [Fraction(*share(table, name, secret)) for name in slow.names]
                    self.assertEqual(sum(parts), slow.secrets.count(secret))

    def test_no_world(self):
        for table, slow in self.drawn(26, 100):
            if slow.torn:
                calls = [(surest, table), (nth_world, table, 0), (nth_world, table, None)]
                for name in slow.names:
                    calls += [(share, table, name, "flu"), (share, table, name, ""), (shares, table, name)]
                for call, *parts in calls:
                    self.check_torn(slow, call, *parts)

    def test_equal_calls_return_equal_results(self):
        for table, slow in self.drawn(27, 30):
            again = Table(Register(table.census.text), table.text)
            self.check(worlds_many(again), worlds_many(table))
            if slow.worlds:
                self.check(surest(again), surest(table))
                self.check([shares(again, name) for name in slow.names], [shares(table, name) for name in slow.names])
            self.check((again.text, again.rows, again.census.persons), (table.text, table.rows, table.census.persons))


class WrongInputs(CrowdCase):
    def test_no_person_comes_first(self):
        for table in (sample(), torn(), wide(11, 11), torn_wide(11)):
            for name in anything() + ["p99", "age", "flu", "p", 0]:
                for row in (0, 99, None):
                    self.check_raises(NoPerson, name, worlds_with, table, name, row)
                for secret in ("flu", "", "Flu", None):
                    self.check_raises(NoPerson, name, share, table, name, secret)
                self.check_raises(NoPerson, name, shares, table, name)

    def test_no_row_ahead_of_too_many(self):
        for table in (sample(), torn(), wide(11, 11), torn_wide(11)):
            for row in anything() + [len(table), 60, "0", (0,), -3, [0]]:
                self.check_raises(NoRow, row, worlds_with, table, "p0", row)

    def test_bad_secret_ahead_of_too_many_and_no_world(self):
        for table in (sample(), torn(), wide(11, 11), torn_wide(11)):
            for secret in NO_SECRETS + [value for value in anything() if value != ""]:
                self.check_raises(BadSecret, secret, share, table, "p0", secret)

    def test_bad_world_ahead_of_too_many(self):
        worlds = [(0,), (0, 0), [0, 1], (0, True), (False, 1), (2, 1), (0, 3), (0, "1"), (0, 1, 2), (0, -2), {0: 1}]
        worlds += [((0, 1),), (0, None), (0, (1,)), (0, 1 + 10 ** 39)]
        for table in (sample(), torn(), wide(11, 11), torn_wide(11)):
            for world in worlds + anything() + [tuple(range(10)), (0, 1, 1)]:
                self.check_raises(BadWorld, world, number_of, table, world)

    def test_bad_number_comes_last(self):
        wrong = [4, 5, -4, "0", (0,), [0], {0: 1}, 4 + 10 ** 39]
        for number in wrong + anything():
            self.check_raises(BadNumber, number, nth_world, sample(), number)
            self.check_number(NoWorld, (0, 1, 2), nth_world, torn(), number)
            self.check_number(TooMany, 11, nth_world, torn_wide(11), number)

    def test_no_world_behind_the_others(self):
        table = torn()
        self.check_number(NoWorld, (0, 1, 2), surest, table)
        self.check_number(NoWorld, (0, 1, 2), shares, table, "p2")
        self.check_number(NoWorld, (0, 1, 2), share, table, "p2", "other")
        self.check_number(NoWorld, (0, 1, 2), nth_world, table, 0)
        ten = torn_wide(10)
        self.check((worlds_many(ten), worlds_with(ten, "p0", 0)), (0, 0))
        for call, *parts in ((surest,), (shares, "p0"), (share, "p0", ""), (nth_world, 0)):
            self.check_number(NoWorld, (8, 9), call, ten, *parts)
