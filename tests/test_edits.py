"""Point 14: tables changed, beside a slow way through all worlds, all marks and all lots."""

import itertools
import random

from alikecrowds.edits import changed, idle_pairs, is_coarser, least_rows, least_widening, pairs, shows_rows
from alikecrowds.edits import shows_widening, with_mark, with_person, with_row, without_person, without_row
from alikecrowds.errors import BadMark, BadMarks, BadName, BadNumber, BadSecret, BadValues, Full, Held, NoColumn
from alikecrowds.errors import NoPerson, NoRow, NoWorld, TooFew, TooMany, Unlike
from alikecrowds.registers import Register
from alikecrowds.tables import Table, is_finer
from samples import HEAD, CrowdCase, anything, joined, sample_register, sample_table
from slow import DrawnCase, Slow, drawn_small, line_table, near

WIDEST = {"age": (-1000000, 1000000), "home": "all"}
NO_SECRETS = ["Flu", "flu ", "a" * 13, "-", "flu\n", b"flu", ("flu",), 0, 1, True, ""]
NO_NAMES = ["Eva", "eva ", "a" * 13, "-", b"eva", ("eva",), 0, 1, True, ""]
NO_NUMBERS = [0, 61, -1, True, "2", (2,), [2], 10 ** 30]


def torn():
    return line_table((30, 34, 41), (30, 34, "flu"), (30, 34, "cold"), (34, 34, "none"))


def slow_pairs(slow):
    return tuple([(person, row) for person in slow.persons for row in slow.rows if slow.can(person, row)])


def with_marks(table, changes):
    """The table with these marks, a dict by row and column."""
    columns = [name for name, _ in table.census.columns]
    lines = []
    for row, (marks, secret) in enumerate(table.rows):
        marks = [changes.get((row, column), mark) for column, mark in zip(columns, marks)]
        words = [mark if isinstance(mark, str) else f"{mark[0]}..{mark[1]}" for mark in marks]
        lines.append(" ".join(["row"] + words + [secret]))
    return Table(table.census, "\n".join(lines))


def wider_marks(table, row, column):
    """All marks that could be wider by least: (amount, mark)."""
    at = [name for name, _ in table.census.columns].index(column)
    own = table.rows[row][0][at]
    if column == "home":
        ups = [own] if own == "all" else [own, "all"]
        return list(enumerate(ups))
    low, high = own
    return [(low - one + other - high, (one, other))
            for one in range(min(-1, low), low + 1) for other in range(high, max(7, high) + 1)]


def slow_widenings(table, row, column):
    """For each wider mark (amount, mark) how many rows can be each person's, by all worlds."""
    found = {}
    for amount, mark in wider_marks(table, row, column):
        slow = Slow(with_marks(table, {(row, column): mark}))
        found[(amount, mark)] = [len(slow.rows_of(person)) for person in slow.persons]
    return found


def slow_openings(table):
    """For each (amount, lot) of rows with widest marks how many rows can be each person's, by all worlds."""
    found = {}
    columns = [name for name, _ in table.census.columns]
    for amount in range(len(table) + 1):
        for lot in itertools.combinations(range(len(table)), amount):
            slow = Slow(with_marks(table, {(row, column): WIDEST[column] for row in lot for column in columns}))
            found[(amount, lot)] = [len(slow.rows_of(person)) for person in slow.persons]
    return found


def rights_in(slow, person, many):
    """All that least_widening, or least_rows, may return, by these slow ways."""
    enough = [pair for pair, rows in slow.items() if rows[person] >= many]
    return [pair for pair in enough if pair[0] == min(enough)[0]] or [None]


class Changes(DrawnCase):
    def test_marks(self):
        dice = random.Random(141)
        for table, _ in self.drawn(142, 60):
            for row, column in itertools.product(range(len(table)), [name for name, _ in table.census.columns]):
                mark = dice.choice(["north", "all"]) if column == "home" else (dice.randint(-2, 2), dice.randint(2, 4))
                found = with_mark(table, row, column, mark)
                self.check(found == with_marks(table, {(row, column): mark}), True)
                self.check(found.census == table.census, True)

    def test_rows(self):
        for table, _ in self.drawn(143, 60):
            for row in range(len(table)):
                found = without_row(table, row)
                self.check(found.rows, table.rows[:row] + table.rows[row + 1:])
                marks, secret = table.rows[row]
                self.check(with_row(found, marks, secret).rows, found.rows + (table.rows[row],))
                self.check(with_row(found, marks, secret).census == table.census, True)

    def test_persons(self):
        for table, _ in self.drawn(144, 60):
            values = table.census.persons[0][1] if len(table.census) else (3, "north")[:len(table.census.columns)]
            more = with_person(table, "zoe", values)
            self.check(more.census.persons, table.census.persons + (("zoe", values),))
            self.check((more.rows, more.census.columns, more.census.kinds),
                       (table.rows, table.census.columns, table.census.kinds))
            self.check(without_person(more, "zoe") == table, True)
            for person, (name, _) in enumerate(table.census.persons):
                fewer = without_person(more, name)
                self.check(fewer.census.persons, more.census.persons[:person] + more.census.persons[person + 1:])
                self.check(fewer.rows, table.rows)

    def test_nothing_is_changed(self):
        table = sample_table()
        with_mark(table, 0, "age", (1, 2))
        without_row(table, 0)
        with_person(table, "zoe", (1, "all"))
        self.check(table == sample_table() and table.census == sample_register(), True)
        self.check(with_mark(table, 0, "age", (1, 2)) == with_mark(sample_table(), 0, "age", (1, 2)), True)


class Pairs(DrawnCase):
    def test_pairs(self):
        for table, slow in self.drawn_with_world(145, 150):
            self.check(pairs(table), slow_pairs(slow))
            self.check(idle_pairs(table), tuple(sorted(slow.fitting - set(slow_pairs(slow)))))

    def test_changed(self):
        dice = random.Random(146)
        for table, slow in self.drawn_with_world(147, 150):
            columns = [name for name, _ in table.census.columns]
            changes = {(row, column): dice.choice(wider_marks(table, row, column))[1]
                       for row in slow.rows for column in columns if dice.random() < 0.4}
            wide = with_marks(table, changes)
            one, other = slow_pairs(slow), slow_pairs(Slow(wide))
            wanted = tuple(sorted(set(other) - set(one)))
            self.check(changed(table, wide), (wanted, ()))
            self.check(changed(wide, table), ((), wanted))
            self.check((is_coarser(table, wide), is_coarser(wide, table)), (True, wide == table))

    def test_changed_at_will(self):
        dice = random.Random(148)
        drawn = [drawn_small(dice, 5, 4) for _ in range(200)]
        alike = [(one, Table(one.census, other.text)) for one in drawn for other in drawn[:40]
                 if len(other) == len(one) <= len(one.census) and len(other.census.columns) == len(one.census.columns)]
        self.assertGreater(len(alike), 200)
        for one, other in dice.sample(alike, 200):
            slow, its = Slow(one), Slow(other)
            if slow.worlds and its.worlds:
                before, behind = slow_pairs(slow), slow_pairs(its)
                wanted = (tuple(sorted(set(behind) - set(before))), tuple(sorted(set(before) - set(behind))))
                self.check(changed(one, other), wanted)
            coarser = all(secret == own and all(is_finer(one.census, column, mark, wide) for (column, _), mark, wide
                                                in zip(one.census.columns, marks, wides))
                          for (marks, secret), (wides, own) in zip(one.rows, other.rows))
            self.check(is_coarser(one, other), coarser)

    def test_coarser_asks_for_the_secrets(self):
        one, other = line_table((1,), (1, 1, "flu")), line_table((1,), (1, 1, "cold"))
        self.check((is_coarser(one, one), is_coarser(one, other)), (True, False))
        two = line_table((1, 2), (1, 1, "flu"), (2, 2, "cold"))
        for text, wanted in (("row 1..2 flu\nrow 2..2 cold", True), ("row 2..2 cold\nrow 1..1 flu", False),
                             ("row 0..1 flu\nrow 1..1 cold", False), ("row 1..1 flu\nrow 2..2 flu", False)):
            self.check(is_coarser(two, Table(two.census, text)), wanted)

    def test_a_row_less_and_a_person_more_only_add(self):
        for table, slow in self.drawn_with_world(149, 60):
            before = set(pairs(table))
            for row in slow.rows:
                kept = {(person, own - (own > row)) for person, own in before if own != row}
                self.assertTrue(kept <= set(pairs(without_row(table, row))))
            more = with_person(table, "zoe", (1, "north")[:len(table.census.columns)])
            self.assertTrue(before <= set(pairs(more)))

    def test_no_world(self):
        for table, slow in self.drawn(150, 60):
            if slow.torn:
                self.check_torn(slow, pairs, table)
                self.check_torn(slow, idle_pairs, table)
                columns = [name for name, _ in table.census.columns]
                wide = with_marks(table, {(row, column): WIDEST[column] for row in slow.rows for column in columns})
                self.check_torn(slow, changed, table, wide)
                self.check_torn(slow, changed, wide, table)
                name = slow.names[0]
                self.check_torn(slow, least_widening, table, name, 1, 0, "age")
                self.check_torn(slow, shows_widening, table, name, 1, 0, "age", None)
                self.check_torn(slow, least_rows, table, name, 1)
                self.check_torn(slow, shows_rows, table, name, 1, None)


class Least(DrawnCase):
    def test_least_widening(self):
        nones = 0
        for table, slow in self.drawn_with_world(151, 60, 5, 4):
            ways = {(row, column): slow_widenings(table, row, column)
                    for row in slow.rows for column, _ in table.census.columns}
            for (person, name), (row, column) in itertools.product(enumerate(slow.names), ways):
                last = -1
                for many in range(1, len(table) + 2):
                    rights = rights_in(ways[(row, column)], person, many)
                    found = least_widening(table, name, many, row, column)
                    self.assertIn(repr(found), [repr(right) for right in rights])
                    self.check(shows_widening(table, name, many, row, column, found), True)
                    nones += found is None
                    amount = 10 ** 9 if found is None else found[0]
                    self.assertGreaterEqual(amount, last)
                    last = amount
        self.assertGreater(nones, 50)

    def test_values_near_to_least_widening(self):
        for table, slow in self.drawn_with_world(152, 25, 4, 3):
            ways = {(row, column): slow_widenings(table, row, column)
                    for row in slow.rows for column, _ in table.census.columns}
            for (person, name), (row, column) in itertools.product(enumerate(slow.names[:2]), ways):
                for many in (1, 2, 3):
                    rights = rights_in(ways[(row, column)], person, many)
                    texts = [repr(right) for right in rights]
                    values = near(rights[-1]) + anything() + wider_marks(table, row, column)
                    values += [(rights[0][0], mark) for _, mark in wider_marks(table, row, column) if rights[0]]
                    for value in values:
                        wanted = repr(value) in texts
                        self.check(shows_widening(table, name, many, row, column, value), wanted)

    def test_least_rows(self):
        for table, slow in self.drawn_with_world(153, 80, 5, 4):
            ways = slow_openings(table)
            for person, name in enumerate(slow.names):
                last = -1
                for many in range(1, len(table) + 2):
                    rights = rights_in(ways, person, many)
                    found = least_rows(table, name, many)
                    self.assertIn(repr(found), [repr(right) for right in rights])
                    amount = 10 ** 9 if found is None else found[0]
                    self.assertGreaterEqual(amount, last)
                    last = amount
                    for value in ways:
                        self.check(shows_rows(table, name, many, value), value in rights)
                    self.check(shows_rows(table, name, many, None), found is None)

    def test_values_near_to_least_rows(self):
        for table, slow in self.drawn_with_world(154, 30, 4, 3):
            ways = slow_openings(table)
            for person, name in enumerate(slow.names[:2]):
                for many in (1, 2, 3):
                    rights = rights_in(ways, person, many)
                    texts = [repr(right) for right in rights]
                    for value in near(rights[-1]) + anything():
                        self.check(shows_rows(table, name, many, value), repr(value) in texts)

    def test_several_least_marks_of_a_line(self):
        table = line_table((0, 4, 10), (4, 6, "flu"), (0, 10, "cold"))
        self.check(least_widening(table, "p0", 2, 0, "age"), (4, (0, 6)))
        self.check(least_widening(table, "p2", 2, 0, "age"), (4, (4, 10)))
        both = line_table((0, 5, 10), (5, 5, "a"), (0, 10, "b"), (0, 10, "c"))
        self.check(least_widening(both, "p1", 1, 0, "age"), (0, (5, 5)))
        found = least_widening(both, "p1", 2, 0, "age")
        self.assertIn(found, [(5, (0, 5)), (5, (5, 10))])
        for mark in ((0, 5), (5, 10)):
            self.check(shows_widening(both, "p1", 2, 0, "age", (5, mark)), True)
        for value in ((5, (1, 6)), (5, (0, 10)), (10, (0, 10)), (4, (1, 5)), (5, (4, 9)), (True, (5, 6)), (5, (10, 15)),
                      (5, (6, 11)), (5, (-1, 4)), (5, (-5, 0))):
            self.check(shows_widening(both, "p1", 2, 0, "age", value), False)

    def test_steps_in_the_tree_are_counted_not_losses(self):
        persons = ["person ann 1 pole", "person bob 1 north", "person cid 1 south", "person dee 1 all"]
        census = Register(joined(HEAD, persons))
        table = Table(census, joined("row 1..1 pole a", "row 1..1 all b", "row 1..1 all c"))
        wanted = {("ann", 1): (0, "pole"), ("ann", 2): (1, "north"), ("ann", 3): (1, "north"), ("bob", 3): (1, "north"),
                  ("cid", 2): (0, "pole"), ("cid", 3): (2, "all"), ("dee", 3): (2, "all"), ("dee", 4): None}
        for (name, many), value in wanted.items():
            self.check(least_widening(table, name, many, 0, "home"), value)
            others = [(0, "pole"), (1, "north"), (2, "all"), (4, "north"), (9, "all"), (1, "south"), (1, "all")]
            for other in others + [None]:
                self.check(shows_widening(table, name, many, 0, "home", other), other == value)

    def test_widenings_far_out_on_the_line(self):
        dice = random.Random(155)
        for _ in range(40):
            ages = [dice.choice([-1, 1]) * dice.randint(0, 1000000) for _ in range(5)]
            rows = [(age, age, "flu") for age in dice.sample(ages, 3)] + [(-1000000, 1000000, "cold")]
            table = line_table(ages, *rows)
            for person, many in itertools.product(range(5), (2, 3)):
                marks = [(low, high) for low in ages for high in ages if low <= rows[0][0] <= high]
                found = {(high - low, (low, high)): Slow(with_marks(table, {(0, "age"): (low, high)})).rows_of(person)
                         for low, high in marks}
                rights = [pair for pair, lot in found.items() if len(lot) >= many]
                least = [pair for pair in rights if pair[0] == min(rights)[0]] or [None]
                self.assertIn(least_widening(table, f"p{person}", many, 0, "age"), least)

    def test_great_tables(self):
        chain = line_table(range(60), *[(at, at + (at < 59), f"s{at % 7}") for at in range(60)])
        wide = line_table([1] * 60, *[(1, 1, f"s{at % 7}") for at in range(60)])
        self.check((len(pairs(chain)), len(idle_pairs(chain)), len(pairs(wide)), idle_pairs(wide)), (60, 59, 3600, ()))
        self.check(changed(wide, wide), ((), ()))
        self.check(changed(chain, Table(chain.census, "\n".join(["row 0..59 flu"] * 60)))[1], ())
        for many, row, wanted in ((1, 30, (0, (30, 31))), (2, 30, (1, (29, 31))), (3, 30, None), (60, 30, None),
                                  (2, 59, (29, (30, 59))), (3, 59, (30, (29, 59))), (4, 59, None)):
            self.check(least_widening(chain, "p30", many, row, "age"), wanted)
            self.check(shows_widening(chain, "p30", many, row, "age", wanted), True)
        self.check(least_widening(wide, "p3", 60, 3, "age"), (0, (1, 1)))
        open_rows = line_table(range(60), (5, 5, "flu"), *[(0, 59, "flu")] * 59)
        self.check((least_widening(open_rows, "p5", 1, 0, "age"), least_widening(open_rows, "p5", 60, 9, "age")),
                   ((0, (5, 5)), None))
        self.check(least_widening(open_rows, "p5", 60, 0, "age")[0], 1)
        ten = line_table(range(60), *[(at, at, "flu") for at in range(10)])
        found = [least_rows(ten, "p3", 10)[0], least_rows(ten, "p3", 11), least_rows(ten, "p40", 3)[0]]
        self.check(found, [10, None, 3])
        self.check_number(TooMany, 60, least_rows, wide, "p0", 1)


class WrongInputs(CrowdCase):
    def test_with_mark(self):
        for table in (sample_table(),):
            for row in anything() + [3, -3, "0", (0,)]:
                self.check_raises(NoRow, row, with_mark, table, row, "zzz", None)
            for column in anything() + ["ann", "all", 0, "age "]:
                self.check_raises(NoColumn, column, with_mark, table, 0, column, None)
            for mark in anything() + [(2, 1), [1, 2], (1, True), (1, 2, 3), "north", (1, 1000001), 5]:
                self.check_raises(BadMark, mark, with_mark, table, 0, "age", mark)
            for mark in anything() + [(1, 2), "east", ("north",), "North", 0]:
                self.check_raises(BadMark, mark, with_mark, table, 0, "home", mark)

    def test_without_row(self):
        for row in anything() + [3, -3, "0", (0,), True]:
            self.check_raises(NoRow, row, without_row, sample_table(), row)
        self.check_number(NoRow, 0, without_row, Table(sample_register(), ""), 0)

    def test_with_row(self):
        table = sample_table()
        wrong = [[(1, 2), "all"], ((1, 2),), ((1, 2), "east"), ((2, 1), "all"), ("all", (1, 2)), ((1, 2), "all", "flu")]
        for marks in wrong + anything():
            for secret in ("flu", None):
                self.check_raises(BadMarks, marks, with_row, table, marks, secret)
        right = ((1, 2), "all")
        for secret in NO_SECRETS + anything():
            self.check_raises(BadSecret, secret, with_row, table, right, secret)
        self.check_number(Full, 3, with_row, table, right, "flu")
        self.check_number(Full, 0, with_row, Table(Register(joined(HEAD)), ""), right, "flu")
        sixty = line_table([1] * 60, *[(1, 1, "flu")] * 60)
        self.check_number(Full, 60, with_row, sixty, ((1, 1),), "flu")
        self.check(len(with_row(without_row(sixty, 7), ((1, 1),), "flu")), 60)

    def test_with_person(self):
        table, sixty = sample_table(), line_table([1] * 60)
        for name in NO_NAMES + anything():
            for values in ((1, "all"), None):
                self.check_raises(BadName, name, with_person, table, name, values)
            self.check_raises(BadName, name, with_person, sixty, name, None)
        for name in ("ann", "bob", "cid"):
            for values in ((1, "all"), None):
                self.check_raises(Held, name, with_person, table, name, values)
        self.check_number(Held, "p0", with_person, sixty, "p0", (1,))
        wrong = [[1, "all"], (1, 1), (1, "all", "all"), ("1", "all"), (True, "all"), (1, "east"), (1000001, "all"),
                 ("all", 1), ("1",), (1000001,), [1]]
        for values in wrong + anything():
            self.check_raises(BadValues, values, with_person, table, "eva", values)
            self.check_raises(BadValues, values, with_person, sixty, "eva", values)
        self.check_number(Full, 60, with_person, sixty, "eva", (1,))
        self.check(len(with_person(without_person(sixty, "p7"), "p7", (1,)).census), 60)

    def test_without_person(self):
        full, loose = line_table((1, 1), (1, 1, "a"), (1, 1, "b")), line_table((1, 1), (1, 1, "a"))
        for table in (full, loose):
            for name in anything() + ["p9", "age", 0]:
                self.check_raises(NoPerson, name, without_person, table, name)
        self.check_number(TooFew, 2, without_person, full, "p0")
        self.check(without_person(loose, "p0").census.persons, (("p1", (1,)),))
        self.check_number(TooFew, 1, without_person, without_person(loose, "p0"), "p1")

    def test_unlike_ahead_of_no_world(self):
        one = torn()
        others = [without_row(one, 0), line_table((30, 34, 42), (30, 34, "flu"), (30, 34, "cold"), (34, 34, "none")),
                  sample_table(), with_person(one, "eva", (3,))]
        for other in others:
            for call in (changed, is_coarser):
                self.check_number(Unlike, None, call, one, other)
                self.check_number(Unlike, None, call, other, one)
        self.check_number(NoWorld, (0, 1, 2), changed, one, one)
        self.check((is_coarser(one, one), is_coarser(one, with_mark(one, 0, "age", (0, 99)))), (True, True))
        other = with_mark(with_mark(one, 0, "age", (41, 41)), 1, "age", (41, 41))
        self.check_number(NoWorld, (0, 1, 2), changed, one, other)
        self.check_number(NoWorld, (0, 1), changed, other, one)

    def test_least_widening_tells_all_in_order(self):
        for table in (sample_table(), torn()):
            first = table.census.persons[0][0]
            for call, more in ((least_widening, ()), (shows_widening, (None,))):
                for name in anything() + ["zoe", "age", 0]:
                    self.check_raises(NoPerson, name, call, table, name, None, None, None, *more)
                for many in NO_NUMBERS + anything():
                    self.check_raises(BadNumber, many, call, table, first, many, None, None, *more)
                for row in anything() + [3, -3, "0", (0,), 10 ** 30]:
                    self.check_raises(NoRow, row, call, table, first, 60, row, None, *more)
                for column in anything() + ["ann", "all", 0]:
                    self.check_raises(NoColumn, column, call, table, first, 1, 0, column, *more)
        self.check_number(NoWorld, (0, 1, 2), least_widening, torn(), "p2", 1, 0, "age")

    def test_least_rows_tells_all_in_order(self):
        eleven = line_table([1] * 11, *[(1, 1, "a")] * 9, (2, 2, "b"), (2, 2, "b"))
        for table in (sample_table(), torn(), eleven):
            first = table.census.persons[0][0]
            for call, more in ((least_rows, ()), (shows_rows, (None,))):
                for name in anything() + ["zoe", "age", 0]:
                    self.check_raises(NoPerson, name, call, table, name, None, *more)
                for many in NO_NUMBERS + anything():
                    self.check_raises(BadNumber, many, call, table, first, many, *more)
        self.check_number(TooMany, 11, least_rows, eleven, "p0", 60)
        self.check_number(TooMany, 11, shows_rows, eleven, "p0", 60, None)
        self.check_number(NoWorld, (0, 1, 2), least_rows, torn(), "p2", 1)
        ten = line_table([1] * 10, *[(1, 1, "a")] * 10)
        self.check(least_rows(ten, "p0", 10), (0, ()))
