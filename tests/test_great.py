"""Points 6 and 7: registers of 60 persons, tables of 60 rows, and answers that are known beforehand."""

import random

from alikecrowds.errors import NoWorld
from alikecrowds.hiding import blocks, crowds, exposed, hiding, least_hidden, least_parted, rows_of, shows_hiding
from alikecrowds.registers import Register
from alikecrowds.tables import Table, fitting_rows
from alikecrowds.worlds import a_world, all_out, all_possible, may_be_out, persons_of, possible
from alikecrowds.worlds import shows_out, shows_possible, shows_world, sure_rows
from samples import CrowdCase
from slow import line_table

NAMES = tuple(sorted([f"p{number}" for number in range(60)]))
ROWS = tuple(range(60))


def great(dice, width, many=60):
    """60 persons, and so many rows, each drawn around another person, so that there is a world."""
    lines = ["column age line", "column home kinds", "kind home all none 2"]
    lines += [f"kind home {kind} {up} 1" for kind, up in (("n", "all"), ("s", "all"), ("ne", "n"), ("nw", "n"))]
    known = [(dice.randint(0, 100), dice.choice(["ne", "nw", "s", "n"])) for _ in range(60)]
    persons = [f"person p{number} {age} {home}" for number, (age, home) in enumerate(known)]
    rows = []
    for age, home in dice.sample(known, many):
        low, high = age - dice.randint(0, width), age + dice.randint(0, width)
        rows.append(f"row {low}..{high} {dice.choice([home, 'all'])} s{dice.randint(0, 5)}")
    return Table(Register("\n".join(lines + persons)), "\n".join(rows))


class Known(CrowdCase):
    def test_all_alike(self):
        table = line_table([7] * 60, *[(7, 7, f"s{row}") for row in ROWS])
        self.check((all_possible(table), all_out(table), sure_rows(table)), ((ROWS,) * 60, (), ()))
        self.check(may_be_out(table, "p3"), ("cannot", ROWS))
        self.check((least_hidden(table), least_parted(table), exposed(table)), (60, 60, ()))
        self.check((crowds(table), blocks(table)), ((NAMES,), ((NAMES, ROWS),)))
        found = hiding(table, 60)
        self.check((found[0], shows_hiding(table, 60, found), shows_hiding(table, 59, found)), ("hidden", True, False))

    def test_all_alike_and_one_more(self):
        table = line_table([7] * 60, *[(7, 7, "flu")] * 59)
        self.check((all_possible(table), all_out(table)), ((ROWS[:59],) * 60, ROWS))
        self.check((crowds(table), blocks(table)), ((NAMES,), ((NAMES, ROWS[:59]),)))
        self.check((least_hidden(table), hiding(table, 60)), (None, ("hidden", ())))

    def test_a_long_chain_with_an_end(self):
        # The last row is the last person's, so the one before is the last but one's, and so on.
        for order in (ROWS, tuple(reversed(ROWS))):
            table = line_table(ROWS, *[(row, min(row + 1, 59), "flu") for row in order])
            self.check(sure_rows(table), tuple((person, order[person]) for person in ROWS))
            self.check((a_world(table), least_hidden(table)), (("world", order), 1))
            self.check(all_possible(table), tuple((order[person],) for person in ROWS))
            self.check(exposed(table), tuple((name, "flu") for name in NAMES))
            for name, row in (("p1", order[0]), ("p59", order[58]), ("p30", order[29])):
                self.check(shows_possible(table, name, row, possible(table, name, row)), True)
                self.check(possible(table, name, row)[0], "cannot")

    def test_a_long_chain_with_one_out(self):
        for order in (ROWS[:59], tuple(reversed(ROWS[:59]))):
            table = line_table(ROWS, *[(row, row + 1, "flu") for row in order])
            self.check((all_out(table), sure_rows(table)), (ROWS, ()))
            for out in (0, 17, 59):
                world = tuple(row if row < out else row + 1 for row in order)
                self.check(may_be_out(table, f"p{out}"), ("can", world))
            row = order.index(19)
            found = possible(table, "p20", row)
            self.check((found[0], found[1][row], shows_possible(table, "p20", row, found)), ("can", 20, True))
            self.check(blocks(table), ((NAMES, tuple(range(59))),))

    def test_a_ring(self):
        # Each row fits two persons, each person two rows: there are two worlds.
        lines = ["column age line", "column end kinds", "kind end all none 1", "kind end yes all 0"]
        lines += ["kind end no all 0"]
        lines += [f"person p{number} {number} {'yes' if number in (0, 59) else 'no'}" for number in ROWS]
        text = "\n".join([f"row {row}..{row + 1} all flu" for row in range(59)] + ["row 0..59 yes cold"])
        table = Table(Register("\n".join(lines)), text)
        self.check(all_possible(table), ((0, 59),) + tuple((row - 1, row) for row in ROWS[1:]))
        self.check((all_out(table), least_hidden(table), least_parted(table)), ((), 2, 1))
        self.check(possible(table, "p0", 59), ("can", tuple(range(1, 60)) + (0,)))
        self.check(possible(table, "p0", 0), ("can", ROWS))

    def test_pairs(self):
        table = line_table([number // 2 for number in ROWS], *[(row // 2, row // 2, f"s{row % 4}") for row in ROWS])
        pairs = tuple((2 * number, 2 * number + 1) for number in range(30))
        self.check(all_possible(table), tuple(pairs[number // 2] for number in ROWS))
        names = tuple(tuple(sorted(f"p{number}" for number in pair)) for pair in pairs)
        self.check((crowds(table), blocks(table)), (names, tuple(zip(names, pairs))))
        found = hiding(table, 2)
        self.check((found[0], shows_hiding(table, 2, found), hiding(table, 3)[0]), ("hidden", True, "seen"))
        self.check(shows_hiding(table, 3, hiding(table, 3)), True)

    def test_torn_at_the_end(self):
        # 30 rows fit 29 persons, behind 30 rows that fit all.
        table = line_table([1] * 29 + [2] * 31, *[(1, 2, "flu")] * 30, *[(1, 1, "flu")] * 30)
        found = a_world(table)
        self.check((found[0], shows_world(table, found)), ("torn", True))
        self.assertLess(len(persons_of(table, found[1])), len(found[1]))
        for call in (all_possible, all_out, sure_rows, crowds, blocks, exposed, least_hidden, least_parted):
            with self.assertRaises(NoWorld) as caught:
                call(table)
            self.check(shows_world(table, ("torn", caught.exception.value)), True)


class Drawn(CrowdCase):
    def test_what_is_told_is_shown(self):
        dice = random.Random(31)
        words = []
        for width, many in ((0, 60), (1, 60), (3, 60), (8, 60), (30, 60), (2, 55), (4, 58)):
            table = great(dice, width, many)
            self.check(shows_world(table, a_world(table)), True)
            rows, out = all_possible(table), all_out(table)
            for number in dice.sample(ROWS, 8):
                name = f"p{number}"
                found = may_be_out(table, name)
                self.check((shows_out(table, name, found), found[0] == "can"), (True, number in out))
                self.check(rows_of(table, name), rows[number])
                near = fitting_rows(table, name)
                for row in dice.sample(near, min(4, len(near))) + dice.sample(range(many), 2):
                    found = possible(table, name, row)
                    self.check(shows_possible(table, name, row, found), True)
                    self.check((found[0] == "can", found[1] == "fit"), (row in rows[number], row not in near))
                    words.append(found[0] if found[1] != "fit" else "fit")
            for number in (1, 2, 3):
                self.check(shows_hiding(table, number, hiding(table, number)), True)
        self.assertGreater(min([words.count(word) for word in ("can", "cannot", "fit")]), 5)

    def test_blocks_part_all_possible_pairs(self):
        dice = random.Random(32)
        for width, many in ((0, 60), (1, 60), (2, 58)):
            table = great(dice, width, many)
            rows, out = all_possible(table), all_out(table)
            for names, own in blocks(table):
                persons = [int(name[1:]) for name in names]
                self.check(tuple(sorted({row for person in persons for row in rows[person]})), own)
                free = [person for person in persons if person in out]
                self.assertTrue(len(free) == 0 and len(persons) == len(own)
                                or len(free) == len(persons) > len(own))
