"""Point 4: the functions for registers."""

import random

from alikecrowds.errors import BadColumns, BadKinds, BadPersons, NoColumn, NoKind, NoPerson
from alikecrowds.registers import Register, above, column_number, is_below, kinds_of, loss_of
from alikecrowds.registers import lowest_above, person_number, register_text
from samples import HEAD, PERSONS, CrowdCase, anything, joined, sample_register

LINE = (("age", "line"),)
HOME = (("home", "kinds"),)
TOP = (("home", "all", None, 9),)
KINDS = ("all", "north", "pole", "south")


def drawn_kinds(dice, many):
    """Kinds of the column home, drawn: an entry for each."""
    entries = [("home", "k0", None, 1000)]
    for number in range(1, many):
        _, up, _, loss = dice.choice(entries)
        entries.append(("home", f"k{number}", up, dice.randint(0, loss)))
    return tuple(entries)


class Texts(CrowdCase):
    def test_there_and_back(self):
        texts = [joined(HEAD, PERSONS), joined(HEAD), "column a line", "column a kinds\nkind a b none 1000000"]
        texts.append("column a kinds\ncolumn b line\ncolumn c kinds\nkind c x none 1\nkind a x none 0\n"
                     "kind c y x 0\nperson none x -1000000 y\nperson 7 x 1000000 x")
        for text in texts:
            census = Register(text)
            self.check(register_text(census.columns, census.kinds, census.persons), text)

    def test_there_and_back_of_many(self):
        dice = random.Random(4)
        for _ in range(50):
            columns = (("age", "line"), ("home", "kinds"))
            kinds = drawn_kinds(dice, dice.randint(1, 60))
            persons = tuple((f"p{number}", (dice.randint(-99, 99), dice.choice(kinds)[1]))
                            for number in range(dice.randint(0, 60)))
            census = Register(register_text(columns, kinds, persons))
            self.check((census.columns, census.kinds, census.persons), (columns, kinds, persons))
            self.check(kinds_of(census, "home"), tuple(kind[1] for kind in kinds))

    def test_columns(self):
        four = tuple((f"c{number}", "line") for number in range(4))
        self.check(register_text(four, (), ()).split("\n")[3], "column c3 line")
        wrong = [(), four + (("e", "line"),), LINE + LINE, (("age", "line"), ("age", "kinds")), list(LINE)]
        wrong += [(["age", "line"],), ("age", "line"), (("age",),), (("age", "line", "line"),), (("age", "kind"),)]
        wrong += [(("Age", "line"),), (("", "line"),), (("abcdefghij123", "line"),), ((7, "line"),), "age line"]
        wrong += [(("age", None),), (("age", ["line"]),), ((None, "line"),), ((["age"], "line"),), (None,), None]
        wrong += [(("age", "line"), None), ("column age line",), {"age": "line"}, (("age line", "line"),), 0]
        for columns in wrong + anything():
            self.check_raises(BadColumns, columns, register_text, columns, (), ())

    def test_kinds(self):
        wrong = [(), list(TOP), (["home", "all", None, 9],), ("home", "all", None, 9), (("home", "all", None),)]
        wrong += [(("home", "all", None, 9, 9),), (("home", "all", "none", 9),), (("home", "all", "all", 9),)]
        wrong += [(("home", "none", None, 9),), (("home", "All", None, 9),), (("home", "", None, 9),)]
        wrong += [(("home", 7, None, 9),), (("home", None, None, 9),), (("town", "all", None, 9),), TOP + TOP]
        wrong += [((None, "all", None, 9),), ((["home"], "all", None, 9),), (({}, "all", None, 9),), None, (None,)]
        wrong += [(("home", ["all"], None, 9),), (("home", "all", False, 9),), (("home", "all", "", 9),), "all"]
        wrong += [(("home", "all", None, loss),) for loss in (-1, 1000001, True, None, "9", (9,), [9], 10 ** 39)]
        wrong += [TOP + (entry,) for entry in (("home", "b", None, 9), ("home", "b", "none", 9), None, ())]
        wrong += [TOP + (("home", "b", up, 9),) for up in ("b", "c", "", 0, True, ["all"], ("all",), {})]
        wrong += [TOP + (("home", "b", "all", loss),) for loss in (10, -1, True, "9")]
        wrong += [TOP + (("home", "b", "all", 5), ("home", "c", "b", 6)), TOP + (["home", "b", "all", 9],)]
        wrong += [TOP + (("home", "all", "all", 9),), TOP + (("home", "none", "all", 9),)]
        for kinds in wrong + anything():
            self.check_raises(BadKinds, kinds, register_text, HOME, kinds, ())

    def test_kinds_of_other_columns(self):
        self.check_raises(BadKinds, TOP, register_text, LINE, TOP, ())
        age = (("age", "all", None, 9),)
        self.check_raises(BadKinds, age, register_text, LINE, age, ())
        self.check_raises(BadKinds, TOP, register_text, HOME + (("town", "kinds"),), TOP, ())
        both = TOP + (("town", "x", "all", 9),)
        self.check_raises(BadKinds, both, register_text, HOME + (("town", "kinds"),), both, ())

    def test_sixty_kinds(self):
        sixty = TOP + tuple(("home", f"k{number}", "all", 9) for number in range(59))
        self.check(len(register_text(HOME, sixty, ()).split("\n")), 61)
        more = sixty + (("home", "k59", "all", 9),)
        self.check_raises(BadKinds, more, register_text, HOME, more, ())

    def test_persons(self):
        columns = LINE + HOME
        self.check(register_text(columns, TOP, ()).split("\n")[2:], ["kind home all none 9"])
        good = ("ann", (30, "all"))
        wrong = [[good], (list(good),), good, (("ann", [30, "all"]),), (("ann", (30,)),), (("ann",),), (good, good)]
        wrong += [(("ann", (30, "all", "all")),), (("ann", ("all", 30)),), (("ann", 30, "all"),), None, (good, None)]
        wrong += [((name, (30, "all")),) for name in ("", "Ann", "abcdefghij123", None, 7, True, ["ann"], ("ann",))]
        wrong += [(("ann", (age, "all")),) for age in (True, False, "30", None, 1000001, -1000001, (30,), [30])]
        wrong += [(("ann", (30, home)),) for home in ("none", "", 7, None, True, ["all"], ("all",), {}, {"all": 1})]
        wrong += [(good, ("bob", (True, "all"))), (good, ["bob", (1, "all")]), "ann", {"ann": (30, "all")}]
        for persons in wrong + [value for value in anything() if value != ()]:
            self.check_raises(BadPersons, persons, register_text, columns, TOP, persons)

    def test_sixty_persons(self):
        sixty = tuple((f"p{number}", (1000000,)) for number in range(60))
        self.check(len(register_text(LINE, (), sixty).split("\n")), 61)
        more = sixty + (("p60", (-1000000,)),)
        self.check_raises(BadPersons, more, register_text, LINE, (), more)

    def test_sequence_of_errors(self):
        for wrong in (None, [()], 0):
            self.check_raises(BadColumns, wrong, register_text, wrong, wrong, wrong)
            self.check_raises(BadKinds, wrong, register_text, LINE, wrong, wrong)
            self.check_raises(BadPersons, wrong, register_text, LINE, (), wrong)


class Numbers(CrowdCase):
    def test_columns(self):
        census = Register("column b line\ncolumn a line\ncolumn d kinds\ncolumn c line\nkind d x none 0")
        self.check([column_number(census, name) for name in "badc"], [0, 1, 2, 3])
        for name in anything() + ["x", "e", 0, "ba", "age"]:
            self.check_raises(NoColumn, name, column_number, census, name)

    def test_persons(self):
        census = sample_register()
        self.check([person_number(census, name) for name in ("ann", "bob", "cid")], [0, 1, 2])
        for name in anything() + ["dee", "an", "age", "pole", 0, 31]:
            self.check_raises(NoPerson, name, person_number, census, name)
        self.check_raises(NoPerson, "ann", person_number, Register("column ann line"), "ann")


class Trees(CrowdCase):
    def test_kinds_of(self):
        census = Register("column a kinds\ncolumn b kinds\n"
                          "kind b z none 3\nkind a x none 1\nkind b y z 2\nkind a w x 1")
        self.check((kinds_of(census, "a"), kinds_of(census, "b")), (("x", "w"), ("z", "y")))

    def test_above(self):
        census = sample_register()
        found = [above(census, "home", kind) for kind in KINDS]
        self.check(found, [("all",), ("north", "all"), ("pole", "north", "all"), ("south", "all")])

    def test_is_below(self):
        census = sample_register()
        found = [(one, other) for one in KINDS for other in KINDS if is_below(census, "home", one, other) is True]
        wanted = [("all", "all"), ("north", "all"), ("north", "north"), ("pole", "all"), ("pole", "north")]
        self.check(found, wanted + [("pole", "pole"), ("south", "all"), ("south", "south")])
        self.check(is_below(census, "home", "all", "pole"), False)

    def test_loss_of(self):
        self.check([loss_of(sample_register(), "home", kind) for kind in KINDS], [9, 4, 0, 1])

    def test_lowest_above(self):
        census = sample_register()
        told = {("pole",): "pole", ("pole", "pole"): "pole", ("north", "pole"): "north", ("pole", "north"): "north"}
        told.update({("pole", "south"): "all", ("south", "pole", "north"): "all", ("all",): "all"})
        told.update({("pole", "all"): "all", ("pole", "pole", "north", "pole"): "north", ("pole",) * 500: "pole"})
        for kinds, wanted in told.items():
            self.check(lowest_above(census, "home", kinds), wanted)

    def test_two_columns_apart(self):
        census = Register("column a kinds\ncolumn b kinds\nkind a x none 5\nkind b x none 7\n"
                          "kind a y x 3\nkind b z x 2\nkind b y z 1")
        self.check((above(census, "a", "y"), above(census, "b", "y")), (("y", "x"), ("y", "z", "x")))
        self.check((loss_of(census, "a", "y"), loss_of(census, "b", "y")), (3, 1))
        self.check_raises(NoKind, "z", above, census, "a", "z")

    def test_drawn_trees(self):
        dice = random.Random(7)
        for _ in range(30):
            kinds = drawn_kinds(dice, dice.randint(1, 60))
            census = Register(register_text(HOME, kinds, ()))
            ups = {name: up for _, name, up, _ in kinds}
            chains = {}
            for name in ups:
                chain = [name]
                while ups[chain[-1]] is not None:
                    chain.append(ups[chain[-1]])
                chains[name] = tuple(chain)
                self.check(above(census, "home", name), chains[name])
            for _, name, _, loss in kinds:
                self.check(loss_of(census, "home", name), loss)
                other = dice.choice(kinds)[1]
                self.check(is_below(census, "home", name, other), other in chains[name])
                some = tuple(dice.choice(kinds)[1] for _ in range(dice.randint(1, 4)))
                shared = [up for up in chains[some[0]] if all(up in chains[kind] for kind in some)]
                lowest = lowest_above(census, "home", some)
                self.check(lowest, shared[0])
                self.assertTrue(all(up in chains[lowest] for up in shared))

    def test_no_column(self):
        census = sample_register()
        for column in anything() + ["age", "pole", "hom", 1]:
            self.check_raises(NoColumn, column, kinds_of, census, column)
            self.check_raises(NoColumn, column, above, census, column, "x")
            self.check_raises(NoColumn, column, is_below, census, column, None, None)
            self.check_raises(NoColumn, column, lowest_above, census, column, [])
            self.check_raises(NoColumn, column, loss_of, census, column, True)

    def test_no_kind(self):
        census = sample_register()
        for kind in anything() + ["none", "east", "home", "ann", 0, ("pole",), ["pole"]]:
            self.check_raises(NoKind, kind, above, census, "home", kind)
            self.check_raises(NoKind, kind, loss_of, census, "home", kind)
            self.check_raises(NoKind, kind, is_below, census, "home", kind, "x")
            self.check_raises(NoKind, kind, is_below, census, "home", "pole", kind)

    def test_no_kinds(self):
        census = sample_register()
        wrong = ["pole", ["pole"], ("pole", "none"), ("none", "pole"), ("pole", None), (("pole",),), {"pole": 1}]
        wrong += [("pole", ["north"]), ("pole", True), ("pole", 0), (31,), ("age",), ("pole", "south", "")]
        for kinds in wrong + anything():
            self.check_raises(BadKinds, kinds, lowest_above, census, "home", kinds)

    def test_calls_change_nothing(self):
        census = sample_register()
        for call in (lambda: above(census, "home", "x"), lambda: lowest_above(census, "home", ("pole", "x"))):
            with self.assertRaises(ValueError):
                call()
        lowest_above(census, "home", ("pole", "south"))
        self.check((census.text, len(census), census == sample_register()), (joined(HEAD, PERSONS), 3, True))
        self.check(kinds_of(census, "home"), KINDS)
