"""Point 7: who is hidden, beside a slow way that goes through all worlds."""

import itertools

from alikecrowds.errors import BadNumber, NoPerson, NoRow, NoWorld
from alikecrowds.hiding import blocks, crowds, exposed, hidden_by, hiding, least_hidden, least_parted, owners_of
from alikecrowds.hiding import parted_by, rows_of, secrets_of, shows_hiding
from alikecrowds.registers import Register
from alikecrowds.tables import Table
from samples import CrowdCase, anything
from slow import DrawnCase, line_table, near

NO_NUMBERS = [0, 61, -1, -60, True, False, "3", None, (3,), [3], {3: 3}, 10 ** 39, 3 + 10 ** 39]


def full():
    """Four persons, the first two of whom have the first two rows, and both have the flu."""
    return line_table((30, 34, 41, 45), (30, 34, "flu"), (30, 34, "flu"), (30, 45, "none"))


def torn():
    """Three persons, two of whom three rows fit."""
    return line_table((30, 34, 41), (30, 34, "flu"), (30, 34, "cold"), (34, 34, "none"))


def alike(many):
    """So many persons and rows, all alike: everybody is hidden by all rows."""
    return line_table([7] * many, *[(7, 7, "flu")] * many)


class Hiding(CrowdCase):
    def test_two_who_are_known_to_have_the_flu(self):
        table = full()
        told = {"p0": (0, 1), "p1": (0, 1), "p2": (2,), "p3": (2,)}
        for name, rows in told.items():
            self.check((rows_of(table, name), hidden_by(table, name)), (rows, len(rows)))
            self.check(secrets_of(table, name), ("flu",) if len(rows) == 2 else ("none",))
            self.check(parted_by(table, name), 1)
        self.check([owners_of(table, row) for row in range(3)], [(0, 1), (0, 1), (2, 3)])
        self.check((exposed(table), least_hidden(table), least_parted(table)),
                   ((("p0", "flu"), ("p1", "flu")), 2, 1))
        self.check(crowds(table), (("p0", "p1"), ("p2", "p3")))
        self.check(blocks(table), ((("p0", "p1"), (0, 1)), (("p2", "p3"), (2,))))

    def test_whom_no_row_can_be(self):
        table = line_table((1, 9, 5, 9, 9), (1, 1, "flu"), (5, 5, "cold"))
        self.check((rows_of(table, "p1"), secrets_of(table, "p1"), hidden_by(table, "p1"), parted_by(table, "p1")),
                   ((), (), 0, 0))
        self.check(crowds(table), (("p0",), ("p1", "p3", "p4"), ("p2",)))
        self.check(blocks(table), ((("p0",), (0,)), (("p1",), ()), (("p2",), (1,)), (("p3",), ()), (("p4",), ())))
        self.check((least_hidden(table), least_parted(table)), (1, 1))

    def test_names_ascend_in_crowds_and_among_the_exposed(self):
        census = Register("column age line\nperson zoe 1\nperson eve 9\nperson amy 1\nperson bob 9\nperson dan 5")
        table = Table(census, "row 1..1 flu\nrow 9..9 cold\nrow 9..9 cold\nrow 1..1 flu\nrow 5..5 none")
        self.check(crowds(table), (("amy", "zoe"), ("bob", "eve"), ("dan",)))
        self.check(blocks(table), ((("amy", "zoe"), (0, 3)), (("bob", "eve"), (1, 2)), (("dan",), (4,))))
        known = (("amy", "flu"), ("bob", "cold"), ("dan", "none"), ("eve", "cold"), ("zoe", "flu"))
        self.check(exposed(table), known)
        self.check([name for name, _ in hiding(table, 1)[1]], ["zoe", "eve", "amy", "bob", "dan"])

    def test_who_may_be_out_is_not_exposed_and_does_not_count(self):
        table = line_table((1, 1, 5, 5), (1, 1, "flu"), (5, 5, "flu"), (5, 5, "cold"))
        self.check((exposed(table), least_hidden(table), least_parted(table)), ((), 2, 2))
        self.check((hidden_by(table, "p0"), parted_by(table, "p0")), (1, 1))
        loose = line_table((1, 1), (1, 1, "flu"))
        self.check((exposed(loose), least_hidden(loose), least_parted(loose), hiding(loose, 60)),
                   ((), None, None, ("hidden", ())))

    def test_same_rows_but_one_cannot_be_out(self):
        # The first one alone has row 0; what is left of row 1 and 2 is for all others.
        table = line_table((1, 2, 2, 2), (1, 1, "flu"), (1, 2, "flu"), (2, 2, "flu"))
        self.check(crowds(table), (("p0",), ("p1", "p2", "p3")))
        self.check(blocks(table), ((("p0",), (0,)), (("p1", "p2", "p3"), (1, 2))))

    def test_blocks_that_several_rows_tie(self):
        table = line_table((1, 4, 2, 5, 3, 6), (1, 2, "flu"), (4, 5, "flu"), (2, 3, "flu"), (5, 6, "flu"))
        self.check(blocks(table), ((("p0", "p2", "p4"), (0, 2)), (("p1", "p3", "p5"), (1, 3))))
        ring = line_table((1, 2, 3, 4), (3, 4, "flu"), (1, 2, "flu"), (2, 3, "flu"))
        self.check(blocks(ring), ((("p0", "p1", "p2", "p3"), (0, 1, 2)),))

    def test_the_greatest_number(self):
        table = alike(3)
        self.check([hiding(table, many)[0] for many in (1, 2, 3, 4, 60)], ["hidden"] * 3 + ["seen"] * 2)
        self.check(hiding(table, 60)[2], ("can",) * 3)

    def test_nobody_and_no_rows(self):
        nobody = line_table(())
        self.check((crowds(nobody), blocks(nobody), exposed(nobody), least_hidden(nobody)), ((), (), (), None))
        empty = line_table((1, 2))
        self.check((crowds(empty), blocks(empty)), ((("p0", "p1"),), ((("p0",), ()), (("p1",), ()))))
        for table in (nobody, empty):
            self.check((hiding(table, 1), shows_hiding(table, 60, ("hidden", ()))), (("hidden", ()), True))
            self.check((least_hidden(table), least_parted(table)), (None, None))


class ShowsHiding(CrowdCase):
    def test_papers_of_the_hidden(self):
        table = full()
        ann, bob = ("p0", ((0, (0, 1, 2)), (1, (1, 0, 3)))), ("p1", ((0, (1, 0, 2)), (1, (0, 1, 2))))
        self.check(shows_hiding(table, 2, ("hidden", (ann, bob))), True)
        for papers in ((ann,), (bob, ann), (ann, bob, bob), (ann, ann), [ann, bob], (list(ann), bob), ()):
            self.check(shows_hiding(table, 2, ("hidden", papers)), False)
        for pairs in (((0, (0, 1, 2)), (0, (0, 1, 3))), ((1, (1, 0, 3)), (0, (0, 1, 2))), ((0, (0, 1, 2)),),
                      ((0, (0, 1, 2)), (1, (0, 1, 2))), ((False, (0, 1, 2)), (True, (1, 0, 3))), ((0, None), (1, None)),
                      ((0, (0, 1, 2)), (2, (1, 2, 0))), ((0, (0, 1, 2)), (1, (1, 0, 3)), (2, (1, 0, 3))),
                      ((0, (0, 1, 2)), (-2, (1, 0, 3))), ((0, (0, 1, 2)), (1, [1, 0, 3])),
                      ((0, (0, 1, 2)), (3, (1, 0, 3))),
                      ((0, (0, 1, 2)), 1), ((0, (0, 1, 2)), [1, (1, 0, 3)]), ((0, (0, 1, 2)), (1, (1, 0, 3), ()))):
            self.check(shows_hiding(table, 2, ("hidden", (("p0", pairs), bob))), False)
        one = ("hidden", (("p0", ((0, (0, 1, 2)),)), ("p1", ((1, (0, 1, 2)),))))
        self.check([shows_hiding(table, many, one) for many in (1, 2)], [True, False])

    def test_papers_of_the_seen(self):
        table = full()
        seen = ("seen", "p1", ("can", "can", (0, 1)))
        self.check([shows_hiding(table, many, seen) for many in (1, 2, 3, 60)], [False, False, True, True])
        wrong = [("can", "can"), ("can", "can", "can"), ("can", "can", "fit"), ("can", (0, 1), (0, 1))]
        wrong += [("can", "can", (0, 1), "fit"), ("can", "can", (0, 1, 2)), ("can", "can", (0,))]
        wrong += [["can", "can", (0, 1)], ("can", "can", (False, True))]
        wrong += [("fit", "can", (0, 1)), ("can", "can", [0, 1]), ("can", "can", ("cannot", (0, 1))), None, (), "can"]
        for papers in wrong:
            self.check(shows_hiding(table, 3, ("seen", "p1", papers)), False)
        for name in ("p2", "p3", "p9", 1, None, ("p1",), True):
            for papers in (("can", "can", (0, 1)), ("fit", "fit", "can")):
                self.check(shows_hiding(table, 3, ("seen", name, papers)), False)

    def test_lots_and_rows_that_do_not_fit(self):
        table = line_table((1, 2, 3), (1, 1, "flu"), (2, 2, "flu"), (1, 3, "flu"))
        self.check(hiding(table, 1)[0], "hidden")
        for papers in (("can", "fit", (0,)), ("can", "fit", (0, 1))):
            self.check(shows_hiding(table, 2, ("seen", "p0", papers)), True)
        for papers in (("can", "fit", "fit"), ("can", (1,), (0,)), ("can", "fit", (1,)), ("can", "fit", (0, 1, 2)),
                       ("can", "can", (0,)), ("can", "fit", (0, 2)), ("can", "fit", (1, 0)), ("can", "fit", "can")):
            self.check(shows_hiding(table, 2, ("seen", "p0", papers)), False)
        self.check(shows_hiding(table, 2, ("seen", "p2", ("fit", "fit", "can"))), True)

    def test_a_row_that_fits_nobody(self):
        table = line_table((1, 2), (3, 3, "flu"))
        for value in (("hidden", ()), ("seen", "p0", ("fit",)), ("seen", "p0", ("can",))):
            self.check(shows_hiding(table, 1, value), False)

    def test_any_value(self):
        for value in anything() + [("hidden",), ("seen",), ("hidden", None), ("seen", "p0"), ("seen", "p0", None)]:
            for table in (full(), torn(), line_table(())):
                for many in (1, 2, 60):
                    self.check(shows_hiding(table, many, value), False)


class BesideSlow(DrawnCase):
    """Tables that are drawn: with a world, and without one."""

    def test_rows_owners_and_secrets(self):
        for table, slow in self.drawn_with_world(11, 300):
            for person, name in enumerate(slow.names):
                rows, secrets = slow.rows_of(person), slow.secrets_of(person)
                self.check((rows_of(table, name), secrets_of(table, name)), (rows, secrets))
                self.check((hidden_by(table, name), parted_by(table, name)), (len(rows), len(secrets)))
            self.check([owners_of(table, row) for row in slow.rows], [slow.owners_of(row) for row in slow.rows])

    def test_least_and_exposed(self):
        for table, slow in self.drawn_with_world(12, 300):
            bound = slow.bound()
            least = min([len(slow.rows_of(person)) for person in bound], default=None)
            parted = min([len(slow.secrets_of(person)) for person in bound], default=None)
            self.check((least_hidden(table), least_parted(table)), (least, parted))
            known = [(slow.names[person],) + slow.secrets_of(person) for person in bound]
            self.check(exposed(table), tuple(sorted(part for part in known if len(part) == 2)))

    def test_crowds_and_blocks(self):
        for table, slow in self.drawn_with_world(13, 300):
            self.check((crowds(table), blocks(table)), (slow.crowds(), slow.blocks()))

    def test_what_holds_for_all_blocks(self):
        for table, slow in self.drawn_with_world(14, 200):
            tight = []
            for names, rows in blocks(table):
                out = [slow.can_be_out(slow.names.index(name)) for name in names]
                self.assertIn(out, ([True] * len(names), [False] * len(names)))
                self.assertTrue(len(names) > len(rows) if out[0] else len(names) == len(rows))
                tight += [] if out[0] else rows
            self.assertIn(tuple(sorted(tight)), slow.tight + [()])
            self.check(sorted(row for _, rows in blocks(table) for row in rows), list(slow.rows))

    def test_hiding(self):
        words = []
        for table, slow in self.drawn_with_world(15, 200):
            for many in (1, 2, 3, 4, 5, 60):
                found = hiding(table, many)
                wanted = all(len(slow.rows_of(person)) >= many for person in slow.bound())
                self.check(found[0], "hidden" if wanted else "seen")
                self.assertTrue(slow.is_right_hiding(many, found))
                self.check(shows_hiding(table, many, found), True)
                words += [found[0]] if slow.bound() else []
        self.assertGreater(min(words.count("hidden"), words.count("seen")), 100)

    def test_near_values_and_other_numbers(self):
        told = []
        for table, slow in self.drawn_with_world(16, 50, 5, 4):
            for many in (1, 2, 3):
                found = hiding(table, many)
                for value in near(found):
                    told.append(shows_hiding(table, many, value))
                    self.check(told[-1], slow.is_right_hiding(many, value))
                for other in (1, 2, 3, 60):
                    self.check(shows_hiding(table, other, found), slow.is_right_hiding(other, found))
        self.assertGreater(min(told.count(True), told.count(False)), 10)

    def test_seen_with_all_papers(self):
        for table, slow in self.drawn_with_world(17, 40, 4, 3):
            for name in slow.names:
                for papers in itertools.product(["can", "fit"] + slow.lots, repeat=len(table)):
                    value = ("seen", name, papers)
                    self.check(shows_hiding(table, 2, value), slow.is_right_hiding(2, value))

    def test_no_world(self):
        for table, slow in self.drawn(18, 100):
            if slow.torn:
                calls = [(call, table) for call in (least_hidden, least_parted, exposed, crowds, blocks)]
                calls += [(hiding, table, many) for many in (1, 2, 60)]
                calls += [(owners_of, table, row) for row in slow.rows]
                for call in (rows_of, secrets_of, hidden_by, parted_by):
                    calls += [(call, table, name) for name in slow.names]
                for call, *parts in calls:
                    self.check_torn(slow, call, *parts)
                for value in (("hidden", ()), ("seen", slow.names[0], ("can",) * len(table))):
                    self.check(shows_hiding(table, 1, value), False)

    def test_equal_calls_return_equal_results(self):
        for table, _ in self.drawn_with_world(19, 40):
            again = Table(Register(table.census.text), table.text)
            for call in (exposed, crowds, blocks, least_hidden, least_parted):
                self.check(call(again), call(table))
            for many in (1, 2):
                self.check(hiding(again, many), hiding(table, many))
            self.check((again.text, again.rows, again.census.persons), (table.text, table.rows, table.census.persons))


class WrongInputs(CrowdCase):
    def test_no_person_ahead_of_no_world(self):
        for table in (full(), torn()):
            for name in anything() + ["p9", "age", "flu", "p", 0]:
                for call in (rows_of, secrets_of, hidden_by, parted_by):
                    self.check_raises(NoPerson, name, call, table, name)

    def test_no_row_ahead_of_no_world(self):
        for table in (full(), torn()):
            for row in anything() + [3, 60, "0", (0,), -3, [0]]:
                self.check_raises(NoRow, row, owners_of, table, row)

    def test_bad_number_ahead_of_no_world(self):
        for table in (full(), torn()):
            for many in NO_NUMBERS + anything():
                self.check_raises(BadNumber, many, hiding, table, many)
                for value in (None, ("hidden", ()), hiding(full(), 2)):
                    self.check_raises(BadNumber, many, shows_hiding, table, many, value)

    def test_no_world_comes_last(self):
        table = torn()
        for call in (least_hidden, least_parted, exposed, crowds, blocks):
            self.check_number(NoWorld, (0, 1, 2), call, table)
        for call in (rows_of, secrets_of, hidden_by, parted_by):
            self.check_number(NoWorld, (0, 1, 2), call, table, "p2")
        self.check_number(NoWorld, (0, 1, 2), owners_of, table, 2)
        for many in (1, 60):
            self.check_number(NoWorld, (0, 1, 2), hiding, table, many)
            self.check(shows_hiding(table, many, ("hidden", ())), False)
