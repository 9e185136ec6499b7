"""Point 12: secrets that are out, beside a slow way through all worlds and all lots."""

import itertools
import random

from alikecrowds.errors import BadNames, BadTold, BadWorld, NoPerson, NoRow, NoWorld, TooMany
from alikecrowds.hiding import secrets_of
from alikecrowds.registers import Register
from alikecrowds.tables import Table
from alikecrowds.telling import given_away, is_told, keeps, least_telling, possible_told, rows_told, secrets_told
from alikecrowds.telling import shows_least_telling, shows_possible_told, shows_world_told, sure_told, world_told
from alikecrowds.worlds import all_out, all_possible
from samples import CrowdCase, anything
from slow import SECRETS, Slow, drawn_small, is_strict, line_table, near

MORE = ["rows", "persons", "world", "can", "cannot", "fit"]


def sample():
    return line_table((1, 2, 3, 4), (1, 2, "flu"), (1, 3, "cold"), (2, 4, "flu"))


def torn():
    """Two persons whom three rows fit."""
    return line_table((30, 34, 41), (30, 34, "flu"), (30, 34, "cold"), (34, 34, "none"))


def drawn_told(dice, table, secrets=None):
    """What could be told: of some persons, mostly secrets of the table."""
    names = sorted(dice.sample([name for name, _ in table.census.persons], dice.randint(0, len(table.census))))
    own = [secret for _, secret in table.rows] or ["flu"]
    return tuple([(name, dice.choice(secrets or own + own + SECRETS + ["", "other"])) for name in names])


class SlowTold(Slow):
    """What can be told under what is told, by all worlds and all lots."""

    def __init__(self, table, told):
        super().__init__(table)
        self.told = {self.names.index(name): secret for name, secret in told}
        self.under = {(person, row) for person, row in self.fitting
                      if self.told.get(person, self.secrets[row]) == self.secrets[row]}
        self.keeping = [world for world in self.worlds
                        if all(self.secret_in(world, person) == secret for person, secret in self.told.items())]
        required = [person for person in self.persons if self.told.get(person, "") != ""]
        self.person_lots = [lot for many in range(1, len(required) + 1)
                            for lot in itertools.combinations(required, many)]

    def secret_in(self, world, person):
        return self.secrets[world.index(person)] if person in world else ""

    def persons_under(self, lot):
        return [person for person in self.persons if any((person, row) in self.under for row in lot)]

    def rows_under(self, lot):
        return [row for row in self.rows if any((person, row) in self.under for person in lot)]

    def reasons(self):
        found = [("rows", lot) for lot in self.lots if len(self.persons_under(lot)) < len(lot)]
        return found + [("persons", lot) for lot in self.person_lots if len(self.rows_under(lot)) < len(lot)]

    def right_told_world(self):
        return [("world", world) for world in self.keeping] or self.reasons()

    def right_possible_told(self, person, row):
        if (person, row) not in self.under:
            return [("cannot", "fit")]
        cans = [("can", world) for world in self.keeping if world[row] == person]
        return cans or self.shutting_out(person, row)

    def shutting_out(self, person, row):
        found = [("cannot", "rows", lot) for lot in self.lots if row not in lot
                 and len(self.persons_under(lot)) == len(lot) and person in self.persons_under(lot)]
        return found + [("cannot", "persons", lot) for lot in self.person_lots if person not in lot
                        and len(self.rows_under(lot)) == len(lot) and row in self.rows_under(lot)]

    def secrets_told(self, person):
        return tuple(sorted({self.secret_in(world, person) for world in self.keeping}))

    def sure(self):
        pairs = [(self.names[person], self.secrets_told(person)) for person in self.persons]
        return tuple(sorted([(name, secrets[0]) for name, secrets in pairs if len(secrets) == 1]))


class ToldCase(CrowdCase):
    def drawn_told(self, seed, many, persons=5, rows=4):
        """So many tables with what is told, and the slow way: some with a world, some without one."""
        dice = random.Random(seed)
        tables = [drawn_small(dice, persons, rows) for _ in range(many)]
        drawn = [(table, drawn_told(dice, table)) for table in tables]
        found = [(table, told, SlowTold(table, told)) for table, told in drawn]
        for wanted in (True, False):
            self.assertGreater(len([slow for _, _, slow in found if bool(slow.keeping) == wanted]), many // 8)
        return found

    def drawn_kept(self, seed, many, persons=5, rows=4):
        return [(table, told, slow) for table, told, slow in self.drawn_told(seed, many, persons, rows) if slow.keeping]

    def check_among(self, found, rights):
        self.assertIn(repr(found), [repr(right) for right in rights])

    def check_reason(self, slow, call, *parts):
        """The call raises NoWorld with a reason."""
        with self.assertRaises(NoWorld) as caught:
            call(*parts)
        self.check_among(caught.exception.value, slow.reasons())


class BesideSlow(ToldCase):
    def test_worlds_and_reasons(self):
        words = set()
        for table, told, slow in self.drawn_told(121, 500):
            found = world_told(table, told)
            words.add(found[0])
            self.check_among(found, slow.right_told_world())
            self.check(bool(slow.reasons()), not slow.keeping)
            for world in slow.worlds:
                self.check(keeps(table, told, world), world in slow.keeping)
                self.check(shows_world_told(table, told, ("world", world)), world in slow.keeping)
            for word, lots in (("rows", slow.lots), ("persons", slow.person_lots)):
                for lot in lots:
                    self.check(shows_world_told(table, told, (word, lot)), (word, lot) in slow.reasons())
        self.assertEqual(words, {"world", "rows", "persons"})

    def test_values_near_to_worlds_and_reasons(self):
        for table, told, slow in self.drawn_told(122, 60):
            rights = [repr(right) for right in slow.right_told_world()]
            reasons = slow.reasons()
            for right in [world_told(table, told)] + reasons[:2] + reasons[-2:]:
                for value in near(right) + anything() + [(word,) + right[1:] for word in MORE]:
                    self.check(shows_world_told(table, told, value), repr(value) in rights)

    def test_possible(self):
        words = set()
        for table, told, slow in self.drawn_kept(123, 500):
            for (person, name), row in itertools.product(enumerate(slow.names), slow.rows):
                found = possible_told(table, told, name, row)
                words.add(found[:2] if found[0] == "cannot" else found[:1])
                rights = slow.right_possible_told(person, row)
                self.check_among(found, rights)
                self.check(shows_possible_told(table, told, name, row, found), True)
                cans = [world for world in slow.keeping if world[row] == person]
                self.check(bool(cans), (person, row) in slow.under and not slow.shutting_out(person, row))
                for value in [("can", world) for world in slow.worlds] + slow.shutting_out(person, row):
                    self.check(shows_possible_told(table, told, name, row, value), value in rights)
                for word, lots in (("rows", slow.lots), ("persons", slow.person_lots)):
                    for lot in lots:
                        value = ("cannot", word, lot)
                        self.check(shows_possible_told(table, told, name, row, value), value in rights)
        self.assertEqual(words, {("can",), ("cannot", "fit"), ("cannot", "rows"), ("cannot", "persons")})

    def test_values_near_to_what_possible_tells(self):
        for table, told, slow in self.drawn_kept(124, 70, 5, 3):
            for (person, name), row in itertools.product(enumerate(slow.names), slow.rows):
                rights = slow.right_possible_told(person, row)
                texts = [repr(right) for right in rights]
                for value in near(random.Random(row).choice(rights)) + anything():
                    self.check(shows_possible_told(table, told, name, row, value), repr(value) in texts)

    def test_rows_and_secrets(self):
        for table, told, slow in self.drawn_kept(125, 300):
            for person, name in enumerate(slow.names):
                rows = [row for row in slow.rows if any(world[row] == person for world in slow.keeping)]
                self.check(rows_told(table, told, name), tuple(rows))
                self.check(secrets_told(table, told, name), slow.secrets_told(person))
            self.check(sure_told(table, told), slow.sure())

    def test_no_world_keeps_it(self):
        for table, told, slow in self.drawn_told(126, 200):
            if not slow.keeping:
                calls = [(sure_told, table, told)]
                for name in slow.names:
                    calls += [(rows_told, table, told, name), (secrets_told, table, told, name)]
                    for row in slow.rows:
                        calls += [(possible_told, table, told, name, row),
                                  (shows_possible_told, table, told, name, row, ("cannot", "fit"))]
                for call, *parts in calls:
                    self.check_reason(slow, call, *parts)

    def test_nothing_is_told(self):
        for table, _, _ in self.drawn_kept(127, 80):
            outs = all_out(table)
            for person, (name, _) in enumerate(table.census.persons):
                self.check(rows_told(table, (), name), all_possible(table)[person])
                self.check(secrets_told(table, (), name), ("",) * (person in outs) + secrets_of(table, name))

    def test_what_is_given_away(self):
        for table, _, slow in self.drawn_kept(128, 60):
            before = SlowTold(table, ()).sure()
            for truth in slow.worlds[:6]:
                for many in range(len(slow.names) + 1):
                    for names in itertools.combinations(sorted(slow.names), many):
                        told = tuple([(name, slow.secret_in(truth, slow.names.index(name))) for name in names])
                        behind = SlowTold(table, told).sure()
                        wanted = [pair for pair in behind if pair not in before and pair[0] not in names]
                        self.check(given_away(table, truth, names), tuple(wanted))

    def test_least_telling(self):
        for table, _, slow in self.drawn_kept(129, 60):
            for truth, name in itertools.product(slow.worlds[:3], slow.names):
                others = sorted(set(slow.names) - {name})
                rights = []
                for many in range(len(others) + 1):
                    for names in itertools.combinations(others, many):
                        told = tuple([(one, slow.secret_in(truth, slow.names.index(one))) for one in names])
                        if name in dict(SlowTold(table, told).sure()):
                            rights.append(names)
                least = [names for names in rights if len(names) == len(rights[0])]
                found = least_telling(table, truth, name)
                self.check_among(found, least)
                for many in range(len(others) + 1):
                    for names in itertools.combinations(others, many):
                        self.check(shows_least_telling(table, truth, name, names), names in least)
                for value in near(found) + anything() + [(name,), (name,) + found, found[1:] + (name,)]:
                    wanted = is_strict(value, [str]) and value in least
                    self.check(shows_least_telling(table, truth, name, value), wanted)


class ForAll(ToldCase):
    def test_what_is_sure_stays_sure(self):
        for table, told, slow in self.drawn_kept(130, 150):
            sure = dict(sure_told(table, told))
            for name, secret in sure.items():
                more = tuple(sorted({**dict(told), name: secret}.items()))
                self.check(sure_told(table, more), tuple(sorted(sure.items())))
            for world in slow.keeping[:3]:
                for person, name in enumerate(slow.names):
                    more = tuple(sorted({**dict(told), name: slow.secret_in(world, person)}.items()))
                    self.assertTrue(set(sure.items()) <= set(sure_told(table, more)))

    def test_if_all_others_are_told_everybody_is_sure(self):
        for table, _, slow in self.drawn_kept(131, 80):
            for world in slow.worlds[:3]:
                told = sorted([(name, slow.secret_in(world, person)) for person, name in enumerate(slow.names)])
                for at in range(len(told)):
                    self.check(sure_told(table, tuple(told[:at] + told[at + 1:])), tuple(told))
                self.check(sure_told(table, tuple(told)), tuple(told))

    def test_equal_calls(self):
        for table, told, _ in self.drawn_kept(132, 20):
            again = Table(Register(table.census.text), table.text)
            wanted = (world_told(table, told), sure_told(table, told))
            sure_told(again, ())
            self.check((world_told(again, told), sure_told(again, told)), wanted)


class Edges(CrowdCase):
    def test_two_reasons(self):
        table = line_table((1, 1, 2), (1, 1, "flu"), (1, 2, "cold"))
        self.check(world_told(table, (("p0", "flu"), ("p1", "flu"))), ("persons", (0, 1)))
        self.check(world_told(table, (("p0", ""), ("p1", ""))), ("rows", (0,)))
        self.check(world_told(table, (("p0", "other"),)), ("persons", (0,)))
        self.check(world_told(line_table((1,)), (("p0", "flu"),)), ("persons", (0,)))
        self.check(world_told(line_table((1,)), (("p0", ""),)), ("world", ()))

    def test_everybody_is_told_of(self):
        table = line_table((1, 1), (1, 1, "flu"))
        self.check(world_told(table, (("p0", "flu"), ("p1", "flu"))), ("persons", (0, 1)))
        self.check(sure_told(table, (("p0", "flu"),)), (("p0", "flu"), ("p1", "")))
        self.check(possible_told(table, (("p0", "flu"),), "p1", 0)[0], "cannot")
        self.check(possible_told(table, (("p0", ""),), "p0", 0), ("cannot", "fit"))

    def test_great_tables(self):
        table = line_table([at // 3 for at in range(60)], *[(at // 3, at // 3 + 1, f"s{at % 7}") for at in range(48)])
        told = tuple(sorted([(f"p{at}", f"s{at % 7}") for at in range(0, 48, 4)]))
        found = world_told(table, told)
        self.check((found[0], shows_world_told(table, told, found)), ("world", True))
        self.assertTrue(set(told) <= set(sure_told(table, told)))
        for name, row in (("p3", 3), ("p4", 3), ("p59", 47), ("p1", 0)):
            self.check(shows_possible_told(table, told, name, row, possible_told(table, told, name, row)), True)
        full = line_table(range(60), *[(at - 1, at + 1, f"s{at % 50}") for at in range(60)])
        truth = tuple(range(60))
        # From both ends all is determined between.
        names = tuple(sorted([f"p{at}" for at in range(0, 60, 2)]))
        behind = dict(given_away(full, truth, names))
        self.check(behind, {f"p{at}": f"s{at % 50}" for at in range(1, 60, 2)})
        wide = line_table([1] * 60, *[(1, 1, "flu")] * 60)
        self.check(sure_told(wide, ()), tuple(sorted([(f"p{at}", "flu") for at in range(60)])))
        ten = line_table([1] * 10, *[(1, 1, f"s{at}") for at in range(10)])
        self.check(len(least_telling(ten, tuple(range(10)), "p0")), 9)
        self.check_number(TooMany, 10, least_telling, full, truth, "p0")


class WrongInputs(CrowdCase):
    wrong_told = [[("p0", "flu")], (["p0", "flu"],), (("p0", "flu", "flu"),), (("p0",),), (("p1", "flu"), ("p0", "a")),
                  (("p0", "flu"), ("p0", "cold")), (("p0", "flu"), ("p0", "flu")), (("p9", "flu"),), ((0, "flu"),),
                  (("p0", "Flu"),), (("p0", "a" * 13),), (("p0", None),), (("p0", ("flu",)),), ((("p0",), "flu"),),
                  (("p0", b"flu"),), (("p0", "-"),), ("p0", "flu"), {"p0": "flu"}, (("p0", True),), (("p0", " "),)]

    def calls(self, table, told, name, row):
        """All functions with told, behind which NoWorld may come, and then the others."""
        late = [(possible_told, table, told, name, row), (shows_possible_told, table, told, name, row, None),
                (rows_told, table, told, name), (secrets_told, table, told, name), (sure_told, table, told)]
        return late, [(keeps, table, told, None), (world_told, table, told), (shows_world_told, table, told, None)]

    def test_bad_told_comes_first(self):
        for table in (sample(), torn()):
            for told in self.wrong_told + [value for value in anything() if value != ()]:
                self.check(is_told(table, told), False)
                for name, row in ((None, None), ("p0", 0)):
                    late, early = self.calls(table, told, name, row)
                    for call, *parts in late + early:
                        self.check_raises(BadTold, told, call, *parts)
        rights = [(), (("p0", ""),), (("p0", "other"), ("p2", "flu")), (("p1", "a" * 12),)]
        self.check([is_told(sample(), told) for told in rights], [True] * 4)

    def test_then_no_person_and_no_row(self):
        for table in (sample(), torn()):
            for told in ((), (("p0", "other"),)):
                for name in anything() + ["p9", "age", 0, ("p0",)]:
                    for call, *parts in self.calls(table, told, name, None)[0][:4]:
                        self.check_raises(NoPerson, name, call, *parts)
                for row in anything() + [3, -3, "0", (0,), 10 ** 30]:
                    for call, *parts in self.calls(table, told, "p0", row)[0][:2]:
                        self.check_raises(NoRow, row, call, *parts)

    def test_then_no_world(self):
        none = (("p0", "none"),)
        for table, told, reason in ((torn(), (), ("rows", (0, 1, 2))), (sample(), none, ("persons", (0,)))):
            for call, *parts in self.calls(table, told, "p0", 0)[0]:
                self.check_number(NoWorld, reason, call, *parts)
            self.check(world_told(table, told), reason)

    def test_bad_worlds(self):
        wrong = [[0, 1, 2], (0, 1), (0, 1, 2, 3), (0, 1, 1), (0, True, 2), (False, 1, 2), (3, 1, 2), (0, 1, "2"),
                 (0, 1, 9)]
        for table in (sample(), torn()):
            for world in wrong + anything():
                self.check_raises(BadWorld, world, keeps, table, (), world)
                self.check_raises(BadWorld, world, keeps, table, (("p0", "none"),), world)
                self.check_raises(BadWorld, world, given_away, table, world, None)
                self.check_raises(BadWorld, world, least_telling, table, world, None)
                self.check_raises(BadWorld, world, shows_least_telling, table, world, None, None)

    def test_bad_names(self):
        wrong = [["p0"], ("p1", "p0"), ("p0", "p0"), ("p9",), (0,), ("p0", None), ("p0", ("p1",)), "p0", {"p0": 1}]
        for names in wrong + [value for value in anything() if value != ()]:
            self.check_raises(BadNames, names, given_away, sample(), (0, 1, 2), names)

    def test_too_many_comes_last(self):
        eleven = line_table([1] * 11, (1, 1, "flu"))
        for call, parts in ((least_telling, ()), (shows_least_telling, (None,))):
            for name in anything() + ["p11", 0]:
                self.check_raises(NoPerson, name, call, eleven, (0,), name, *parts)
                self.check_raises(NoPerson, name, call, sample(), (0, 1, 2), name, *parts)
            self.check_number(TooMany, 10, call, eleven, (0,), "p0", *parts)
            self.check_number(TooMany, 10, call, line_table([1] * 60), (), "p0", *parts)
        self.check(least_telling(line_table([1] * 10, (1, 1, "flu")), (0,), "p9"), ("p0",))
