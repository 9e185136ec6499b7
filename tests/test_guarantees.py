"""Point 3: what all functions together promise of one table, or of one desk."""

import random
from fractions import Fraction

from alikecrowds.counts import nth_world, number_of, share, shares, surest, worlds_many, worlds_with
from alikecrowds.desk import Desk, desk_text, read_desk
from alikecrowds.edits import changed, idle_pairs, is_coarser, least_rows, least_widening, pairs, with_mark
from alikecrowds.edits import with_person, without_person, without_row
from alikecrowds.hiding import blocks, crowds, exposed, hidden_by, hiding, least_hidden, least_parted, owners_of
from alikecrowds.hiding import parted_by, rows_of, secrets_of, shows_hiding
from alikecrowds.joined import joint_many, joint_secrets, newly_known, table_alone
from alikecrowds.making import is_made, least_crowd, least_crowds, made_table, table_loss, widened
from alikecrowds.registers import Register, register_text
from alikecrowds.tables import Table, fits, fits_many, table_text
from alikecrowds.telling import possible_told, rows_told, secrets_told, sure_told, world_told
from alikecrowds.worlds import a_world, all_out, all_possible, may_be_out, persons_of, possible, shows_out
from alikecrowds.worlds import shows_possible, shows_world, sure_rows
from samples import CrowdCase
from slow import drawn_small


def drawn_tables(seed, many, persons=5, rows=4):
    dice = random.Random(seed)
    return [drawn_small(dice, persons, rows) for _ in range(many)]


def with_worlds(seed, many, persons=5, rows=4):
    return [table for table in drawn_tables(seed, many, persons, rows) if a_world(table)[0] == "world"]


def names_in(table):
    return [name for name, _ in table.census.persons]


class OneTable(CrowdCase):
    def test_a_world_or_a_torn_lot(self):
        for table in drawn_tables(31, 150):
            word, paper = a_world(table)
            self.check(shows_world(table, (word, paper)), True)
            self.check(worlds_many(table) > 0, word == "world")
            if word == "torn":
                self.assertLess(len(persons_of(table, paper)), len(paper))
                self.check(shows_hiding(table, 1, ("hidden", ())), False)
            self.check(world_told(table, ())[0], "world" if word == "world" else "rows")
            if len(table) <= 5:
                self.check(joint_many(table, table) > 0, word == "world")

    def test_what_can_be_whose_is_told_alike(self):
        for table in with_worlds(32, 200):
            every, idle = all_possible(table), idle_pairs(table)
            self.check(pairs(table), tuple([(person, row) for person, rows in enumerate(every) for row in rows]))
            self.check(len(pairs(table)) + len(idle), fits_many(table))
            for person, name in enumerate(names_in(table)):
                self.check((rows_of(table, name), rows_told(table, (), name)), (every[person], every[person]))
                self.check((hidden_by(table, name), parted_by(table, name)),
                           (len(every[person]), len(secrets_of(table, name))))
                for row in range(len(table)):
                    can = row in every[person]
                    self.check(possible(table, name, row)[0] == "can", can)
                    self.check(shows_possible(table, name, row, possible(table, name, row)), True)
                    self.check(possible_told(table, (), name, row)[0] == "can", can)
                    self.check(worlds_with(table, name, row) > 0, can)
                    self.check(person in owners_of(table, row), can)
                    self.check((person, row) in idle, fits(table, name, row) and not can)

    def test_who_may_be_out_and_what_secrets_are_told_alike(self):
        for table in with_worlds(33, 200):
            outs, total = all_out(table), worlds_many(table)
            for person, name in enumerate(names_in(table)):
                out = person in outs
                self.check(may_be_out(table, name)[0] == "can", out)
                self.check(shows_out(table, name, may_be_out(table, name)), True)
                self.check(share(table, name, "") != (0, 1), out)
                told = ("",) * out + secrets_of(table, name)
                self.check(secrets_told(table, (), name), told)
                self.check(tuple([secret for secret, _, _ in shares(table, name)]), told)
                self.check(sum([Fraction(top, bottom) for _, top, bottom in shares(table, name)]), Fraction(1))
                rows = sum([worlds_with(table, name, row) for row in range(len(table))])
                top, bottom = share(table, name, "")
                self.check(Fraction(rows, total) + Fraction(top, bottom), Fraction(1))
                self.check((name, secrets_of(table, name)[0]) in exposed(table) if not out else False,
                           not out and parted_by(table, name) == 1)
            sure = {person: row for person, row in sure_rows(table)}
            self.check(sure, {person: rows[0] for person, rows in enumerate(all_possible(table))
                              if len(rows) == 1 and person not in outs})

    def test_hidden_by_how_many(self):
        for table in with_worlds(34, 150):
            outs = all_out(table)
            bound = [name for person, name in enumerate(names_in(table)) if person not in outs]
            least = min([hidden_by(table, name) for name in bound], default=None)
            self.check(least_hidden(table), least)
            self.check(least_parted(table), min([parted_by(table, name) for name in bound], default=None))
            for many in range(1, len(table) + 2):
                found = hiding(table, many)
                self.check(found[0] == "hidden", least is None or many <= least)
                self.check(shows_hiding(table, many, found), True)
            self.check(dict(exposed(table)), {name: secret for name, secret in sure_told(table, ())
                                              if secret and name in bound})
            of_crowds = [name for crowd in crowds(table) for name in crowd]
            of_blocks = [name for names, _ in blocks(table) for name in names]
            self.check(sorted(of_crowds), sorted(names_in(table)))
            self.check(sorted(of_blocks), sorted(names_in(table)))

    def test_numbers_of_worlds(self):
        for table in with_worlds(35, 100, 4, 4):
            worlds = [nth_world(table, number) for number in range(worlds_many(table))]
            self.assertEqual(worlds, sorted(worlds))
            for number, world in enumerate(worlds):
                self.check((number_of(table, world), shows_world(table, ("world", world))), (number, True))
            if len(table):
                top, bottom, person, secret = surest(table)
                self.check(share(table, names_in(table)[person], secret), (top, bottom))


class Told(CrowdCase):
    def test_what_is_told_leaves_the_worlds_that_keep_it(self):
        for table in with_worlds(36, 80):
            worlds = [nth_world(table, number) for number in range(worlds_many(table))]
            for person, name in enumerate(names_in(table)):
                for secret in secrets_told(table, (), name):
                    told = ((name, secret),)
                    kept = [world for world in worlds
                            if (table.rows[world.index(person)][1] if person in world else "") == secret]
                    self.check(Fraction(len(kept), len(worlds)), Fraction(*share(table, name, secret)))
                    for other, its in enumerate(names_in(table)):
                        rows = [row for row in range(len(table)) if any(world[row] == other for world in kept)]
                        self.check(rows_told(table, told, its), tuple(rows))
                        self.assertTrue(set(rows) <= set(all_possible(table)[other]))

    def test_two_tables_alike_tell_no_more_of_secrets(self):
        for table in with_worlds(37, 60):
            for name in names_in(table):
                self.assertTrue(set(joint_secrets(table, table, name)) <= set(secrets_told(table, (), name)))
            wide = table_alone(table, ("age",))
            for before, behind in zip(all_possible(table), all_possible(wide)):
                self.assertTrue(set(before) <= set(behind))
            if len(table.census.columns) == 1:
                self.check(newly_known(table, wide), newly_known(table, table))


class Changed(CrowdCase):
    def test_coarser_marks_only_add(self):
        dice = random.Random(38)
        for table in with_worlds(39, 100):
            for row in range(len(table)):
                low, high = table.rows[row][0][0]
                wide = with_mark(table, row, "age", (low - dice.randint(0, 2), high + dice.randint(0, 2)))
                self.check((is_coarser(table, wide), a_world(wide)[0]), (True, "world"))
                came, gone = changed(table, wide)
                self.check((gone, set(pairs(wide)) == set(pairs(table)) | set(came)), ((), True))
                both = widened(table, (row,), wide.rows[row][0])
                self.check(both == wide, True)

    def test_rows_and_persons(self):
        for table in with_worlds(40, 60):
            for row in range(len(table)):
                less = without_row(table, row)
                for before, behind in zip(all_possible(table), all_possible(less)):
                    self.assertTrue({own - (own > row) for own in before if own != row} <= set(behind))
            more = with_person(table, "zoe", (1, "all")[:len(table.census.columns)])
            for before, behind in zip(all_possible(table), all_possible(more)):
                self.assertTrue(set(before) <= set(behind))
            self.check(without_person(more, "zoe") == table, True)

    def test_what_is_told_to_be_enough_is_enough(self):
        for table in with_worlds(41, 40):
            for name in names_in(table):
                for many in range(1, len(table) + 1):
                    for row in range(len(table)):
                        found = least_widening(table, name, many, row, "age")
                        if found is not None:
                            wide = with_mark(table, row, "age", found[1])
                            self.assertGreaterEqual(hidden_by(wide, name), many)
                    found = least_rows(table, name, many)
                    self.check(found == (0, ()), hidden_by(table, name) >= many)


class Made(CrowdCase):
    def test_everybody_is_hidden_by_their_crowd(self):
        for table in drawn_tables(42, 60):
            census = table.census
            for least in (1, 2, 3):
                told = least_crowds(census, least)
                if told is None:
                    continue
                loss, chosen = told
                secrets = tuple(["flu"] * len(census))
                made = made_table(census, secrets, chosen, tuple(range(len(census))))
                self.check((table_loss(made), is_made(made, chosen)), (loss, True))
                self.check(hiding(made, max(1, least_crowd(chosen)))[0], "hidden")
                for crowd in chosen:
                    for person in crowd:
                        self.assertTrue(set(crowd) <= set(all_possible(made)[person]))


class ThereAndBack(CrowdCase):
    def test_texts_are_read_back(self):
        for table in drawn_tables(43, 60):
            census = table.census
            self.check(register_text(census.columns, census.kinds, census.persons), census.text)
            self.check(table_text(census, table.rows), table.text)
            self.check(Table(Register(census.text), table.text) == table, True)
            desk = Desk()
            desk.lead(("register", "r", census.text))
            desk.lead(("table", "t", "r", table.text))
            for name in names_in(table)[:2]:
                desk.lead(("out", "t", name, ""))
            text = desk_text(desk)
            wanted = (desk.thing_of("t") == table, desk.told_of("t"))
            while desk.all_deeds()[0]:
                desk.undo()
            self.check(desk.names, ())
            while desk.all_deeds()[1]:
                desk.redo()
            self.check((desk.thing_of("t") == table, desk.told_of("t"), desk_text(desk)), wanted + (text,))
            self.check(desk_text(read_desk(text)), text)

    def test_a_great_table_at_a_desk(self):
        desk = Desk()
        desk.lead(("register", "r", "\n".join(["column age line"] + [f"person p{at} {at}" for at in range(60)])))
        rows = [f"row {at // 2 * 2}..{at // 2 * 2 + 1} s{at % 9}" for at in range(60)]
        desk.lead(("table", "t", "r", "\n".join(rows)))
        for at in range(0, 60, 4):
            desk.lead(("out", "t", f"p{at}", f"s{at % 9}"))
        sure = dict(desk.sure_of("t"))
        self.check([f"p{at}" in sure for at in range(60)], [at % 4 < 2 for at in range(60)])
        self.check([sure[f"p{at}"] for at in range(1, 60, 4)], [f"s{at % 9}" for at in range(1, 60, 4)])
        self.check(desk.secrets_of("t", "p2"), ("s2", "s3"))
        self.check(desk_text(read_desk(desk_text(desk))) == desk_text(desk), True)
