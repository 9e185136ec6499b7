"""Point 11: making tables, beside a slow way through all partings and all worlds."""

import itertools
import random

from alikecrowds.counts import worlds_with
from alikecrowds.errors import BadCrowd, BadCrowds, BadLot, BadMarks, BadNumber, BadSecrets, BadSequence, NoPerson
from alikecrowds.errors import TooMany
from alikecrowds.hiding import hidden_by, rows_of
from alikecrowds.making import are_crowds, are_marks, common_marks, crowd_marks, is_made, joined_marks, least_crowd
from alikecrowds.making import least_crowds, loss_of_marks, made_table, marked_table, marks_below, own_marks
from alikecrowds.making import shows_least_crowds, table_loss, widened
from alikecrowds.registers import Register
from alikecrowds.tables import Table, covers
from alikecrowds.worlds import all_possible, is_world
from samples import HEAD, CrowdCase, anything, joined, sample_register, sample_table
from slow import SECRETS, Slow, is_strict, near, partings

KINDS = ["all", "north", "pole", "south"]
UPS = {"all": ["all"], "north": ["north", "all"], "pole": ["pole", "north", "all"], "south": ["south", "all"]}
LOSSES = {"all": 9, "north": 4, "pole": 0, "south": 1}
RIGHT_SECRETS = ("flu", "cold", "flu")
RIGHT_CROWDS = ((0, 2), (1,))
RIGHT_MARKS = (((31, 40), "all"), ((-2, -2), "north"), ((40, 41), "south"))


def drawn_register(dice, most=5, least=0):
    """A register with a line and kinds, and persons in no order."""
    many = dice.randint(least, most)
    names = dice.sample(["ann", "bob", "cid", "dee", "eva", "fay", "gus", "hal", "ida", "joe"], many)
    return Register(joined(HEAD, [f"person {name} {dice.randint(0, 6)} {dice.choice(KINDS)}" for name in names]))


def all_marks(ages=range(-1, 3)):
    """All marks over a few ages and all kinds."""
    lines = [(low, high) for low in ages for high in ages if low <= high]
    return list(itertools.product(lines, KINDS))


def slow_below(one, other):
    return other[0][0] <= one[0][0] and one[0][1] <= other[0][1] and other[1] in UPS[one[1]]


def slow_loss(marks):
    return marks[0][1] - marks[0][0] + LOSSES[marks[1]]


def slow_crowd(census, crowd):
    """The marks of a crowd: the lowest kind above all."""
    ages = [census.persons[person][1][0] for person in crowd]
    homes = [census.persons[person][1][1] for person in crowd]
    shared = [kind for kind in UPS[homes[0]] if all([kind in UPS[home] for home in homes])]
    return ((min(ages), max(ages)), shared[0])


def slow_crowds_loss(census, crowds):
    return sum([slow_loss(slow_crowd(census, crowd)) * len(crowd) for crowd in crowds])


def all_crowds(census, least=1):
    return [tuple(sorted(parting)) for parting in partings(list(range(len(census))), least)]


def drawn_secrets(dice, census):
    return tuple([dice.choice(SECRETS) for _ in range(len(census))])


def drawn_sequence(dice, census):
    return tuple(dice.sample(range(len(census)), len(census)))


def wide_register(many, same=False):
    lines = [f"person p{at} 0 all" if same else f"person p{at} {at * at} {KINDS[at % 4]}" for at in range(many)]
    return Register(joined(HEAD, lines))


class Marks(CrowdCase):
    def test_joined_and_common_of_all(self):
        census = sample_register()
        marks = all_marks(range(0, 3))
        for one, other in itertools.product(marks, marks):
            above = [wide for wide in marks if slow_below(one, wide) and slow_below(other, wide)]
            least = [wide for wide in above if all([slow_below(wide, its) for its in above])]
            self.check([joined_marks(census, one, other)], least)
            below = [fine for fine in marks if slow_below(fine, one) and slow_below(fine, other)]
            greatest = [fine for fine in below if all([slow_below(its, fine) for its in below])]
            self.check([common_marks(census, one, other)], greatest or [None])
            self.check(marks_below(census, one, other), slow_below(one, other))
            self.check(joined_marks(census, other, one), joined_marks(census, one, other))
            common = common_marks(census, one, other)
            self.check(one if common is None else joined_marks(census, one, common), one)

    def test_three_are_joined_alike(self):
        census = sample_register()
        dice = random.Random(111)
        for _ in range(200):
            one, other, third = [dice.choice(all_marks()) for _ in range(3)]
            ahead = joined_marks(census, joined_marks(census, one, other), third)
            self.check(joined_marks(census, one, joined_marks(census, other, third)), ahead)

    def test_losses(self):
        census = sample_register()
        for marks in all_marks():
            self.check(loss_of_marks(census, marks), slow_loss(marks))
        self.check(loss_of_marks(census, ((-1000000, 1000000), "all")), 2000009)
        self.check(loss_of_marks(Register("column age line\ncolumn size line"), ((1, 4), (-2, 0))), 5)

    def test_own_marks_and_crowd_marks(self):
        dice = random.Random(112)
        for _ in range(60):
            census = drawn_register(dice, 6, 1)
            for person, (name, (age, home)) in enumerate(census.persons):
                self.check(own_marks(census, name), ((age, age), home))
                self.check(crowd_marks(census, (person,)), ((age, age), home))
            for many in range(1, len(census) + 1):
                for crowd in itertools.combinations(range(len(census)), many):
                    self.check(crowd_marks(census, crowd), slow_crowd(census, crowd))

    def test_which_are_marks(self):
        census = sample_register()
        for value in near(((1, 2), "north")) + anything():
            wanted = is_strict(value, ((int, int), str)) and value[1] in KINDS
            self.check(are_marks(census, value), wanted and -1000000 <= value[0][0] <= value[0][1] <= 1000000)
        self.check(are_marks(Register("column age line"), ((1, 2),)), True)


class Crowds(CrowdCase):
    def test_which_are_crowds(self):
        dice = random.Random(113)
        for _ in range(20):
            census = drawn_register(dice, 4)
            rights = [repr(crowds) for crowds in all_crowds(census)]
            for crowds in all_crowds(census):
                self.check(are_crowds(census, crowds), True)
                self.check(least_crowd(crowds), min([len(crowd) for crowd in crowds], default=0))
                for value in near(crowds):
                    self.check(are_crowds(census, value), repr(value) in rights)
            for value in anything():
                self.check(are_crowds(census, value), repr(value) in rights)

    def test_least_crowd_of_whatever_stands_in_them(self):
        self.check(least_crowd(()), 0)
        self.check(least_crowd(((1, 2), ("a",), (None, [], {}))), 1)
        self.check(least_crowd((([], {}, ()), (0, 0), (True, False, 1))), 2)

    def test_least_crowds(self):
        dice = random.Random(114)
        for _ in range(100):
            census = drawn_register(dice)
            for least in (1, 2, 3, 4, 5, 6, 60):
                losses = {crowds: slow_crowds_loss(census, crowds) for crowds in all_crowds(census, least)}
                found = least_crowds(census, least)
                rights = [repr((loss, crowds)) for crowds, loss in losses.items() if loss == min(losses.values())]
                self.assertIn(repr(found), rights or ["None"])
                self.check(found is None, 0 < len(census) < least)
                for crowds, loss in losses.items():
                    self.check(shows_least_crowds(census, least, (loss, crowds)), repr((loss, crowds)) in rights)
                    self.assertGreaterEqual(loss, found[0])
                fewer = [(slow_crowds_loss(census, crowds), crowds) for crowds in all_crowds(census)]
                for value in near(found) + anything() + fewer:
                    wanted = repr(value) in (rights or ["None"])
                    self.check(shows_least_crowds(census, least, value), wanted)

    def test_ten_persons(self):
        dice = random.Random(115)
        census = drawn_register(dice, 10, 10)
        for least in range(1, 11):
            found = least_crowds(census, least)
            self.check(shows_least_crowds(census, least, found), True)
            self.check((least_crowd(found[1]) >= least, slow_crowds_loss(census, found[1])), (True, found[0]))
            for crowds in random.Random(least).sample(all_crowds(census, least), 1):
                self.assertGreaterEqual(slow_crowds_loss(census, crowds), found[0])
        self.check(least_crowds(census, 11), None)
        self.check(least_crowds(wide_register(10, True), 3)[0], 90)
        self.check(least_crowds(Register(joined(HEAD)), 60), (0, ()))
        self.check(shows_least_crowds(Register(joined(HEAD)), 60, None), False)

    def test_least_crowds_of_seven_and_eight(self):
        dice = random.Random(116)
        for many in (6, 7, 8):
            census = drawn_register(dice, many, many)
            for least in range(1, many + 1):
                losses = [slow_crowds_loss(census, crowds) for crowds in all_crowds(census, least)]
                self.check(least_crowds(census, least)[0], min(losses))


class Made(CrowdCase):
    def test_everybody_is_hidden_by_their_crowd(self):
        dice = random.Random(117)
        for _ in range(25):
            census = drawn_register(dice)
            for crowds in all_crowds(census):
                secrets, sequence = drawn_secrets(dice, census), drawn_sequence(dice, census)
                table = made_table(census, secrets, crowds, sequence)
                wanted = [(slow_crowd(census, [crowd for crowd in crowds if person in crowd][0]), secrets[person])
                          for person in sequence]
                self.check(table.rows, tuple(wanted))
                self.check(table.census == census and table == Table(census, table.text), True)
                self.check(is_world(table, sequence), True)
                slow = Slow(table)
                for crowd in crowds:
                    own = {row for row, person in enumerate(sequence) if person in crowd}
                    for person in crowd:
                        name = census.persons[person][0]
                        self.check(rows_of(table, name), slow.rows_of(person))
                        self.assertTrue(own <= set(rows_of(table, name)))
                        self.assertTrue(all([worlds_with(table, name, row) > 0 for row in own]))
                        self.assertGreaterEqual(hidden_by(table, name), least_crowd(crowds))
                self.check(table_loss(table), slow_crowds_loss(census, crowds))

    def test_a_great_made_table(self):
        census = wide_register(60)
        crowds = tuple([tuple(range(at, at + 5)) for at in range(0, 60, 5)])
        table = made_table(census, ("flu",) * 60, crowds, tuple(reversed(range(60))))
        self.assertGreaterEqual(min([len(rows) for rows in all_possible(table)]), 5)
        self.check((is_made(table, crowds), is_made(table, (tuple(range(60)),))), (True, False))

    def test_which_are_made(self):
        dice = random.Random(118)
        for _ in range(25):
            census = drawn_register(dice, 4)
            every = all_crowds(census)
            for crowds in every:
                table = made_table(census, drawn_secrets(dice, census), crowds, drawn_sequence(dice, census))
                for other in every:
                    marks = [sorted([slow_crowd(census, crowd) for crowd in both for _ in crowd])
                             for both in (crowds, other)]
                    self.check(is_made(table, other), marks[0] == marks[1])
        census = sample_register()
        table = made_table(census, RIGHT_SECRETS, RIGHT_CROWDS, (1, 0, 2))
        for rows, wanted in ((table.rows, True), (table.rows[::-1], True), (table.rows[:2], False), ((), False),
                             ((table.rows[0],) * 3, False)):
            text = "\n".join([f"row {low}..{high} {home} {secret}" for ((low, high), home), secret in rows])
            self.check(is_made(Table(census, text), RIGHT_CROWDS), wanted)

    def test_marked_tables(self):
        dice = random.Random(119)
        for _ in range(40):
            census = drawn_register(dice)
            marks = tuple([((age - dice.randint(0, 2), age + dice.randint(0, 2)), dice.choice(UPS[home]))
                           for _, (age, home) in census.persons])
            secrets, sequence = drawn_secrets(dice, census), drawn_sequence(dice, census)
            table = marked_table(census, secrets, marks, sequence)
            self.check(table.rows, tuple([(marks[person], secrets[person]) for person in sequence]))
            self.check(is_world(table, sequence), True)

    def test_widened(self):
        dice = random.Random(120)
        for _ in range(60):
            census = drawn_register(dice)
            crowds = dice.choice(all_crowds(census))
            table = made_table(census, drawn_secrets(dice, census), crowds, drawn_sequence(dice, census))
            rows = tuple(sorted(dice.sample(range(len(table)), dice.randint(0, len(table)))))
            marks = dice.choice(all_marks())
            wide = widened(table, rows, marks)
            for row, (own, secret) in enumerate(table.rows):
                wanted = joined_marks(census, own, marks) if row in rows else own
                self.check(wide.rows[row], (wanted, secret))
            for before, behind in zip(all_possible(table), all_possible(wide)):
                self.assertTrue(set(before) <= set(behind))
            self.check(wide == table, all([marks_below(census, marks, table.rows[row][0]) for row in rows]))
            self.check(table_loss(wide), sum([slow_loss(own) for own, _ in wide.rows]))

    def test_without_persons(self):
        census = Register(joined(HEAD))
        table = made_table(census, (), (), ())
        self.check((table.text, is_made(table, ()), table_loss(table), least_crowd(())), ("", True, 0, 0))
        self.check(marked_table(census, (), (), ()) == table, True)
        self.check(widened(table, (), ((1, 2), "all")) == table, True)

    def test_equal_calls(self):
        census = sample_register()
        wanted = made_table(census, RIGHT_SECRETS, RIGHT_CROWDS, (1, 0, 2))
        widened(wanted, (0,), ((1, 2), "all"))
        self.check(made_table(sample_register(), RIGHT_SECRETS, RIGHT_CROWDS, (1, 0, 2)) == wanted, True)
        self.check(least_crowds(sample_register(), 2), least_crowds(census, 2))


class WrongInputs(CrowdCase):
    wrong_marks = [[(1, 2), "north"], ((1, 2),), ((1, 2), "north", "all"), ((2, 1), "north"), ([1, 2], "north"),
                   ((1, True), "north"), ((1, 2), "east"), ((1, 2), ("north",)), ("north", (1, 2)), ((1, 2, 3), "all"),
                   ((1, 1000001), "all"), ((-1000001, 1), "all"), ((1, None), "all"), (None, "all"), ((1, 2), ["all"])]

    def test_no_person(self):
        for name in anything() + ["zoe", "age", "ann ", 0, ("ann",)]:
            self.check_raises(NoPerson, name, own_marks, sample_register(), name)

    def test_bad_marks(self):
        census, right = sample_register(), ((1, 2), "north")
        for wrong in self.wrong_marks + anything():
            for call in (joined_marks, common_marks, marks_below):
                self.check_raises(BadMarks, wrong, call, census, wrong, None)
                self.check_raises(BadMarks, wrong, call, census, wrong, right)
                self.check_raises(BadMarks, wrong, call, census, right, wrong)
            self.check_raises(BadMarks, wrong, loss_of_marks, census, wrong)
            self.check_raises(BadMarks, wrong, widened, sample_table(), (0,), wrong)
            self.check_raises(BadMarks, wrong, widened, sample_table(), (), wrong)
            self.check(are_marks(census, wrong), False)

    def test_bad_crowd(self):
        wrong = [(), [0], (1, 0), (0, 0), (3,), (-1,), (0, True), (False,), ("ann",), (0, 1, 2, 3), (None,), 0]
        for persons in wrong + anything():
            self.check_raises(BadCrowd, persons, crowd_marks, sample_register(), persons)
        self.check_number(BadCrowd, (), crowd_marks, Register(joined(HEAD)), ())

    def test_bad_crowds(self):
        wrong = [((0, 2), (1,), ()), ((), (0, 2), (1,)), [(0, 2), (1,)], ([0, 2], (1,)), ((1,), (0, 2)), ((2, 0), (1,)),
                 ((0,), (1,)), ((0, 1), (1, 2)), ((0, 2), (True,)), ((False, 2), (1,)), ((0, 3), (1, 2)), (), (0, 1, 2),
                 ((0, 2), (1, 3)), ((0, 2), ("1",)), ((0, 2), None), ((0, 1, 1, 2),), ((0, 2), (1,), (1,))]
        census, table = sample_register(), sample_table()
        for crowds in wrong + anything():
            self.check(are_crowds(census, crowds), False)
            self.check_raises(BadCrowds, crowds, is_made, table, crowds)
            for sequence in ((0, 1, 2), None):
                self.check_raises(BadCrowds, crowds, made_table, census, RIGHT_SECRETS, crowds, sequence)
        wrong = [((0, 2), ()), ((), (1,)), ((),), [(0, 2), (1,)], ((0,), [1]), (0, 1), ("ab",), None, "", [], {}, True]
        for crowds in wrong:
            self.check_raises(BadCrowds, crowds, least_crowd, crowds)

    def test_bad_secrets_come_first(self):
        wrong = [list(RIGHT_SECRETS), RIGHT_SECRETS[:2], RIGHT_SECRETS + ("flu",), ("flu", "", "flu"),
                 ("flu", "Flu", "flu"), ("flu", "a" * 13, "flu"), ("flu", None, "flu"), ("flu", ("flu",), "flu"),
                 ("flu", b"flu", "flu"), ("flu", 1, "flu"), ("flu", "a b", "flu"), "abc"]
        census = sample_register()
        for secrets in wrong + anything():
            for others in ((RIGHT_CROWDS, (0, 1, 2)), (None, None)):
                self.check_raises(BadSecrets, secrets, made_table, census, secrets, *others)
            for others in ((RIGHT_MARKS, (0, 1, 2)), (None, None)):
                self.check_raises(BadSecrets, secrets, marked_table, census, secrets, *others)

    def test_bad_marks_of_persons(self):
        census = sample_register()
        wrong = [RIGHT_MARKS[:at] + (marks,) + RIGHT_MARKS[at + 1:] for marks in self.wrong_marks for at in range(3)]
        wrong += [list(RIGHT_MARKS), RIGHT_MARKS[:2], RIGHT_MARKS + RIGHT_MARKS[:1], RIGHT_MARKS[::-1]]
        wrong += [(((32, 40), "all"),) + RIGHT_MARKS[1:], (((31, 40), "south"),) + RIGHT_MARKS[1:],
                  RIGHT_MARKS[:1] + (((-2, -2), "pole"),) + RIGHT_MARKS[2:]]
        for marks in wrong + anything():
            for sequence in ((0, 1, 2), None):
                self.check_raises(BadMarks, marks, marked_table, census, RIGHT_SECRETS, marks, sequence)

    def test_bad_sequence_comes_last(self):
        wrong = [[0, 1, 2], (0, 1), (0, 1, 2, 3), (0, 1, 1), (0, 1, 3), (0, True, 2), (False, 1, 2), (0, 1, "2"),
                 (0, 1, -1), (0, 1, None), (0, 1, (2,)), (1, 2, 3), 0, (0, 1, 2, 2)]
        census = sample_register()
        for sequence in wrong + anything():
            self.check_raises(BadSequence, sequence, made_table, census, RIGHT_SECRETS, RIGHT_CROWDS, sequence)
            self.check_raises(BadSequence, sequence, marked_table, census, RIGHT_SECRETS, RIGHT_MARKS, sequence)
        self.check(covers(census, "age", RIGHT_MARKS[0][0], 31), True)

    def test_bad_lot_ahead_of_bad_marks(self):
        table = sample_table()
        for rows in [[0], (1, 0), (0, 0), (3,), (-1,), (True,), (0, "1"), (None,), 0, (0, 1, 2, 3)] + anything():
            if rows != ():
                for marks in (((1, 2), "all"), None):
                    self.check_raises(BadLot, rows, widened, table, rows, marks)
        self.check(widened(table, (), ((1, 2), "all")) == table, True)
        self.check(widened(table, (0, 1, 2), ((1, 2), "all")).rows[0], (((-5, 31), "all"), "flu"))

    def test_bad_number_ahead_of_too_many(self):
        eleven, sixty = wide_register(11), wide_register(60)
        for least in anything() + [0, 61, -1, "2", (2,), [2]]:
            for census in (sample_register(), eleven):
                self.check_raises(BadNumber, least, least_crowds, census, least)
                self.check_raises(BadNumber, least, shows_least_crowds, census, least, None)
        for census in (eleven, sixty):
            for least in (1, 12, 60):
                self.check_number(TooMany, len(census), least_crowds, census, least)
                self.check_number(TooMany, len(census), shows_least_crowds, census, least, None)
