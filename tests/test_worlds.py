"""Point 6: worlds, beside a slow way that goes through all of them."""

import itertools

from alikecrowds.errors import BadLot, NoPerson, NoRow, NoWorld
from alikecrowds.registers import Register
from alikecrowds.tables import Table
from alikecrowds.worlds import a_world, all_out, all_possible, is_world, may_be_out, persons_of, possible
from alikecrowds.worlds import shows_out, shows_possible, shows_world, sure_rows
from samples import CrowdCase, anything, sample_register
from slow import DrawnCase, Slow, line_table, near


def sample():
    """Four persons; nobody is sure of any row, and everybody may be out."""
    return line_table((30, 34, 41, 45), (30, 34, "flu"), (30, 41, "cold"), (41, 45, "none"))


def full():
    """Four persons, the first two of whom must have the first two rows."""
    return line_table((30, 34, 41, 45), (30, 34, "flu"), (30, 34, "cold"), (30, 45, "none"))


def torn():
    """Three persons, two of whom three rows fit."""
    return line_table((30, 34, 41), (30, 34, "flu"), (30, 34, "cold"), (34, 34, "none"))


class Worlds(CrowdCase):
    def test_is_world_of_the_sample(self):
        table = sample()
        for world in itertools.product(range(4), repeat=3):
            self.check(is_world(table, world), world in Slow(table).worlds)

    def test_is_world_of_any_value(self):
        table = sample()
        wrong = [(0, 1), (0, 1, 3, 2), [0, 1, 3], (False, True, 3), (0, True, 3), (0, 1, "3"), (0, 1, None), (0, 1, 4)]
        wrong += [(-4, 1, 3), (0, -3, 3), (0, 1, -1), (0, 0, 3), (1, 1, 3), (0, 1, (3,)), ("p0", "p1", "p3"), {0: 0}]
        wrong += [((0, 1, 3),), (0, 1, 60), (0, 1, 3 + 10 ** 39), "013", (0, 1, [3])]
        for value in wrong + anything():
            self.check(is_world(table, value), False)

    def test_is_world_without_rows(self):
        for table in (line_table(()), line_table((1, 2))):
            self.check(is_world(table, ()), True)
            for value in [[], (0,), None, "", {}, ((),)]:
                self.check(is_world(table, value), False)

    def test_without_rows(self):
        table = line_table((1, 2))
        self.check((a_world(table), all_possible(table), all_out(table)), (("world", ()), ((), ()), (0, 1)))
        self.check((may_be_out(table, "p0"), sure_rows(table)), (("can", ()), ()))
        self.check((shows_world(table, ("world", ())), shows_world(table, ("torn", ()))), (True, False))
        nobody = line_table(())
        self.check((a_world(nobody), all_possible(nobody), all_out(nobody), sure_rows(nobody)),
                   (("world", ()), (), (), ()))

    def test_the_row_of_another_person_alone(self):
        table = full()
        self.check(possible(table, "p0", 2), ("cannot", (0, 1)))
        self.check(possible(table, "p2", 0), ("cannot", "fit"))
        self.check([may_be_out(table, name) for name in ("p0", "p1")], [("cannot", (0, 1))] * 2)
        self.check((all_possible(table), all_out(table), sure_rows(table)),
                   (((0, 1), (0, 1), (2,), (2,)), (2, 3), ()))

    def test_one_row_alone_is_not_sure_for_who_may_be_out(self):
        table = line_table((1, 1, 5), (1, 1, "flu"), (5, 5, "flu"))
        self.check((all_possible(table), sure_rows(table)), (((0,), (0,), (1,)), ((2, 1),)))

    def test_sure_rows_go_by_persons(self):
        table = line_table((9, 1, 5), (1, 1, "flu"), (1, 5, "flu"), (1, 9, "cold"))
        self.check(sure_rows(table), ((0, 2), (1, 0), (2, 1)))

    def test_of_several_lots_each_may_be_told(self):
        table = line_table((1, 2, 3, 4), (1, 1, "flu"), (2, 2, "flu"), (3, 4, "flu"), (1, 4, "flu"))
        told = {(0,): True, (0, 1): True, (1,): False, (0, 2): False, (0, 1, 2): False, (0, 3): False}
        for lot, wanted in told.items():
            self.check(shows_possible(table, "p0", 3, ("cannot", lot)), wanted)
        told.update({(0, 1, 2, 3): True})
        for lot, wanted in told.items():
            self.check(shows_out(table, "p0", ("cannot", lot)), wanted)

    def test_what_does_not_fit_is_told_so(self):
        table = full()
        self.check(shows_possible(table, "p2", 0, ("cannot", "fit")), True)
        self.check(shows_possible(table, "p2", 0, ("cannot", (2,))), False)
        self.check(shows_possible(table, "p2", 0, ("cannot", (0, 1))), False)
        self.check(shows_possible(table, "p0", 2, ("cannot", "fit")), False)
        self.check(shows_possible(table, "p0", 1, ("cannot", "fit")), False)


class BesideSlow(DrawnCase):
    """Tables that are drawn: with a world, and without one."""

    def test_a_world_or_a_torn_lot(self):
        for table, slow in self.drawn(1, 300):
            self.assertNotEqual(bool(slow.worlds), bool(slow.torn))
            found = a_world(table)
            self.assertIn(repr(found), [repr(value) for value in slow.right_worlds()])
            self.check(shows_world(table, found), True)

    def test_persons_of_each_lot(self):
        for table, slow in self.drawn(2, 60):
            for lot in slow.lots:
                self.check(persons_of(table, lot), slow.persons_of(lot))

    def test_possible_and_out(self):
        for table, slow in self.drawn(3, 150):
            for person, name in enumerate(slow.names if slow.worlds else []):
                self.assertIn(repr(may_be_out(table, name)), [repr(value) for value in slow.right_out(person)])
                self.check(shows_out(table, name, may_be_out(table, name)), True)
                for row in slow.rows:
                    found = possible(table, name, row)
                    self.assertIn(repr(found), [repr(value) for value in slow.right_possible(person, row)])
                    self.check(shows_possible(table, name, row, found), True)

    def test_all_possible_all_out_and_sure_rows(self):
        for table, slow in self.drawn(4, 300):
            if slow.worlds:
                rows = [slow.rows_of(person) for person in slow.persons]
                self.check(all_possible(table), tuple(rows))
                self.check(all_out(table), tuple(person for person in slow.persons if slow.can_be_out(person)))
                sure = [(person, rows[person][0]) for person in slow.bound() if len(rows[person]) == 1]
                self.check(sure_rows(table), tuple(sure))

    def test_no_world_is_raised_with_a_torn_lot(self):
        for table, slow in self.drawn(5, 100):
            if slow.torn:
                calls = [(all_possible, table), (all_out, table), (sure_rows, table)]
                for name in slow.names:
                    calls += [(may_be_out, table, name), (shows_out, table, name, None)]
                    calls += [(possible, table, name, row) for row in slow.rows]
                    calls += [(shows_possible, table, name, row, ("cannot", "fit")) for row in slow.rows]
                for call, *parts in calls:
                    self.check_torn(slow, call, *parts)

    def test_shows_world_of_all_papers(self):
        for table, slow in self.drawn(6, 60, 4, 3):
            right = [repr(value) for value in slow.right_worlds()]
            for paper in itertools.chain(itertools.permutations(slow.persons, len(table)), slow.lots):
                for value in (("world", paper), ("torn", paper)):
                    self.check(shows_world(table, value), repr(value) in right)

    def test_shows_possible_and_shows_out_of_all_papers(self):
        for table, slow in self.drawn(7, 60, 4, 3):
            papers = list(itertools.permutations(slow.persons, len(table))) + slow.lots + ["fit"]
            values = [(word, paper) for word in ("can", "cannot") for paper in papers]
            for person, name in enumerate(slow.names if slow.worlds else []):
                right = [repr(value) for value in slow.right_out(person)]
                for value in values:
                    self.check(shows_out(table, name, value), repr(value) in right)
                for row in slow.rows:
                    right = [repr(value) for value in slow.right_possible(person, row)]
                    for value in values:
                        self.check(shows_possible(table, name, row, value), repr(value) in right)

    def test_near_values(self):
        for table, slow in self.drawn(8, 40):
            self.check_near(shows_world, (table,), a_world(table), slow.right_worlds())
            for person, name in enumerate(slow.names if slow.worlds else []):
                self.check_near(shows_out, (table, name), may_be_out(table, name), slow.right_out(person))
                for row in slow.rows:
                    right = slow.right_possible(person, row)
                    self.check_near(shows_possible, (table, name, row), possible(table, name, row), right)

    def check_near(self, call, parts, told, right):
        right = {repr(value) for value in right}
        for value in near(told) + anything():
            self.check(call(*parts, value), repr(value) in right)

    def test_equal_calls_return_equal_results(self):
        for table, _ in self.drawn(9, 40):
            again = Table(Register(table.census.text), table.text)
            self.check(a_world(again), a_world(table))
            if a_world(table)[0] == "world":
                for name, _ in table.census.persons:
                    self.check(may_be_out(again, name), may_be_out(table, name))
                    for row in range(len(table)):
                        self.check(possible(again, name, row), possible(table, name, row))
            self.check((again.text, again.rows, again.census.persons), (table.text, table.rows, table.census.persons))


class WrongInputs(CrowdCase):
    def test_no_person_comes_first(self):
        for table in (sample(), torn()):
            for name in anything() + ["p9", "age", "flu", "p", 0]:
                for row in (0, 9, None, True):
                    self.check_raises(NoPerson, name, possible, table, name, row)
                    self.check_raises(NoPerson, name, shows_possible, table, name, row, None)
                self.check_raises(NoPerson, name, may_be_out, table, name)
                self.check_raises(NoPerson, name, shows_out, table, name, None)

    def test_no_row_comes_second(self):
        for table in (sample(), torn()):
            for row in anything() + [3, 60, "0", (0,), -3, [0]]:
                self.check_raises(NoRow, row, possible, table, "p0", row)
                self.check_raises(NoRow, row, shows_possible, table, "p0", row, ("cannot", "fit"))

    def test_no_world_comes_last(self):
        table = torn()
        for call in (all_possible, all_out, sure_rows):
            self.check_number(NoWorld, (0, 1, 2), call, table)
        for name in ("p0", "p2"):
            self.check_number(NoWorld, (0, 1, 2), may_be_out, table, name)
            self.check_number(NoWorld, (0, 1, 2), shows_out, table, name, ("cannot", (0, 1)))
            for row in range(3):
                self.check_number(NoWorld, (0, 1, 2), possible, table, name, row)
                self.check_number(NoWorld, (0, 1, 2), shows_possible, table, name, row, ("cannot", "fit"))

    def test_without_a_world(self):
        table = torn()
        self.check(a_world(table), ("torn", (0, 1, 2)))
        self.check((shows_world(table, ("torn", (0, 1, 2))), shows_world(table, ("torn", (0, 1)))), (True, False))
        self.check((is_world(table, (0, 1, 1)), is_world(table, (0, 1, 2)), is_world(table, None)), (False,) * 3)
        self.check((persons_of(table, (2,)), persons_of(table, (0, 1, 2))), ((1,), (0, 1)))

    def test_bad_lot(self):
        wrong = [(1, 0), (0, 0), (0, 1, 1), (2, 0), [0], [0, 1], (True,), (False,), (False, True)]
        wrong += [(0, 3), (-1, 0), (60,)]
        wrong += ["0", ("0",), (0, None), (None, 0), ((0,),), {0: 1}, (0, [1]), 0, 1, (0, 10 ** 39)]
        for lot in wrong + anything():
            for table in (sample(), torn()):
                self.check_raises(BadLot, lot, persons_of, table, lot)
        empty = line_table((1, 2))
        for lot in [(), (0,)]:
            self.check_raises(BadLot, lot, persons_of, empty, lot)

    def test_a_row_that_fits_nobody(self):
        table = Table(sample_register(), "row 100..200 all flu")
        self.check((a_world(table), persons_of(table, (0,))), (("torn", (0,)), ()))
        self.check(shows_world(table, ("torn", (0,))), True)
