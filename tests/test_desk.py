"""Point 15: a desk, beside a slow way that keeps all its standings; journals there and back."""

import random

from alikecrowds.desk import Desk, desk_text, read_desk
from alikecrowds.errors import BadDeed, BadDesk, BadMarks, BadName, BadPerson, BadRegister, BadSecret, BadTable
from alikecrowds.errors import CrowdError, Held, InUse, NoName, NoNote, NoPerson, NoRow, NothingToRedo, NothingToUndo
from alikecrowds.errors import NotThat, NotTold, NoWorld, TooMany
from alikecrowds.registers import Register
from alikecrowds.tables import Table
from alikecrowds.telling import secrets_told, sure_told
from samples import CrowdCase, anything, joined
from slow_desk import SlowDesk, after, census_in, first_wrong, table_in

TOWN = "column age line\nperson ann 30\nperson bob 34"
HOME = "column age line\ncolumn home kinds\nkind home all none 2\nkind home north all 1\nperson ann 1 all"
ROWS = "row 30..34 yes\nrow 30..34 no"
THINGS = ["a", "b", "c", "town", "0"]
PERSONS = ["ann", "bob", "cid", "dee", "1"]
NO_NAMES = ["", "A", "a b", "a" * 13, "-", "a\n", b"a", ("a",), 0, 1, None, True, [], {}, "a_b"]
PARTS = ["register", "person", "table", "row", "strike", "marks", "out", "hush", "copy", "drop"]
SETTLED = [
    ("register", "town", TOWN), ("person", "town", "cid", (41,)), ("table", "flu", "town", ROWS),
    ("row", "flu", ((-5, 50),), "no"), ("out", "flu", "bob", "no"), ("out", "flu", "ann", ""),
    ("hush", "flu", "ann"), ("copy", "flu", "pox"), ("marks", "pox", 0, ((30, 30),)), ("strike", "flu", 1),
    ("register", "home", HOME), ("table", "none", "home", ""), ("row", "none", ((1, 2), "north"), "z"),
    ("person", "home", "eve", (-3, "north")), ("out", "none", "eve", ""), ("drop", "none"), ("copy", "home", "old"),
]
JOURNAL = joined(
    "stand 17", "register town 3", "column age line", "person ann 30", "person bob 34", "person town cid 41",
    "table flu town 2", "row 30..34 yes", "row 30..34 no", "row flu -5..50 no", "out flu bob no", "out flu ann -",
    "hush flu ann", "copy flu pox", "marks pox 0 30..30", "strike flu 1", "register home 5", "column age line",
    "column home kinds", "kind home all none 2", "kind home north all 1", "person ann 1 all", "table none home 1", "",
    "row none 1..2 north z", "person home eve -3 north", "out none eve -", "drop none", "copy home old",
)


def desk_of(*deeds):
    desk = Desk()
    for deed in deeds:
        desk.lead(deed)
    return desk


def settled():
    return desk_of(*SETTLED)


def drawn_text(dice, with_kinds):
    """A text of a register, now and then a wrong one."""
    lines = ["column age line"] + ["column home kinds", "kind home all none 2", "kind home north all 1"] * with_kinds
    for name in dice.sample(PERSONS, dice.randint(0, 3)):
        home = dice.choice(["all", "north", "all", "5"])
        lines.append(f"person {name} {dice.randint(-1, 3)}" + f" {home}" * with_kinds)
    return "\n".join(lines)


def drawn_marks(dice, with_kinds):
    age = dice.randint(-2, 1)
    return ((age, age + dice.randint(0, 4)),) + (dice.choice(["all", "all", "north"]),) * with_kinds


def has_kinds(things, name):
    """Whether what stands under this name has a column of kinds."""
    if name not in things:
        return False
    return "kinds" in things[name if things[name][0] == "register" else things[name][2]][1]


def drawn_deed(dice, slow):
    """A deed that can be done, mostly."""
    found = [any_deed(dice, slow.things()) for _ in range(12)]
    done = [deed for deed in found if after(slow.things(), deed) is not None]
    return done[0] if done and dice.random() < 0.8 else found[0]


def any_deed(dice, things):
    """A deed that names what is there, mostly."""
    tables = [name for name in things if things[name][0] == "table"] or ["a"]
    registers = [name for name in things if things[name][0] == "register"] or ["b"]
    name, home, new = dice.choice(tables), dice.choice(registers), dice.choice(THINGS)
    kinds, its = has_kinds(things, home), has_kinds(things, name)
    person, secret = dice.choice(PERSONS), dice.choice(["flu", "cold", "x9", ""])
    values = (dice.randint(-1, 3),) + (dice.choice(["all", "north"]),) * kinds
    rows = [" ".join(["row", f"{low}..{high}"] + more + ["flu"]) for (low, high), *more in
            [drawn_marks(dice, kinds) for _ in range(dice.randint(0, 2))]]
    return dice.choice([
        ("register", new, drawn_text(dice, dice.random() < 0.5)), ("register", new, drawn_text(dice, False)),
        ("person", home, person, values), ("person", home, person, values), ("table", new, home, "\n".join(rows)),
        ("table", new, home, "\n".join(rows)), ("row", name, drawn_marks(dice, its), secret or "z"),
        ("row", name, drawn_marks(dice, its), secret or "z"), ("strike", name, dice.randint(0, 2)),
        ("marks", name, dice.randint(0, 2), drawn_marks(dice, its)), ("out", name, person, secret),
        ("out", name, person, secret), ("hush", name, person), ("copy", dice.choice([name, home]), new),
        ("drop", dice.choice([name, home])),
    ])


def drawn_desk(dice, steps):
    """A desk with its slow way, behind so many drawn steps; and what each step is checked by."""
    desk, slow = Desk(), SlowDesk()
    for _ in range(steps):
        deed = drawn_deed(dice, slow)
        if slow.lead(deed):
            desk.lead(deed)
        if dice.random() < 0.2:
            word = dice.choice(THINGS)
            desk.note(word)
            slow.noted[word] = slow.at
        if dice.random() < 0.15 and slow.at:
            desk.undo()
            slow.at -= 1
    return desk, slow


class DeskCase(CrowdCase):
    def check_desk(self, desk, slow):
        """The desk tells all that the slow way tells."""
        things = slow.things()
        self.check(desk.names, tuple(sorted(things)))
        self.check((len(desk), [name in desk for name in THINGS]), (len(things), [name in things for name in THINGS]))
        for name, thing in things.items():
            self.check(desk.thing_kind(name), thing[0])
            self.check(desk.thing_of(name).text, thing[1])
            if thing[0] == "register":
                self.check(desk.thing_of(name) == census_in(things, name), True)
            else:
                self.check_sheet(desk, things, name)
        self.check(desk.all_deeds(), (tuple(slow.deeds[:slow.at]), tuple(slow.deeds[slow.at:])))
        self.check(desk.notes(), tuple(sorted(slow.noted.items())))

    def check_sheet(self, desk, things, name):
        table, told = table_in(things, name), tuple(sorted(things[name][3].items()))
        self.check(desk.thing_of(name) == table, True)
        self.check((desk.register_of(name), desk.told_of(name)), (things[name][2], told))
        calls = [(desk.sure_of, (name,), sure_told, (table, told))]
        for person, _ in table.census.persons:
            calls.append((desk.secrets_of, (name, person), secrets_told, (table, told, person)))
        for call, parts, wanted, its in calls:
            try:
                self.check(call(*parts), wanted(*its))
            except NoWorld as error:
                self.check_number(NoWorld, error.value, wanted, *its)

    def check_refused(self, desk, error, value, call, *parts):
        """The call raises this, and nothing is changed by it."""
        before = (desk_text(desk), desk.names, [desk.thing_of(name).text for name in desk.names])
        with self.assertRaises(CrowdError) as caught:
            call(*parts)
        self.assertIs(type(caught.exception), error)
        self.check(caught.exception.value, value)
        self.check((desk_text(desk), desk.names, [desk.thing_of(name).text for name in desk.names]), before)


class BesideSlow(DeskCase):
    def test_drawn_deeds(self):
        for seed in range(40):
            dice = random.Random(seed)
            desk, slow = Desk(), SlowDesk()
            refused = 0
            for _ in range(40):
                deed = drawn_deed(dice, slow)
                if slow.lead(deed):
                    self.check(desk.lead(deed), None)
                else:
                    refused += 1
                    before = desk_text(desk)
                    with self.assertRaises(CrowdError):
                        desk.lead(deed)
                    self.check(desk_text(desk), before)
                self.check_desk(desk, slow)
                self.go(dice, desk, slow)
                self.check_desk(desk, slow)
            self.assertTrue(refused < 30, refused)

    def go(self, dice, desk, slow):
        """Undoes, does again, notes or goes back, now and then."""
        step = dice.choice(["undo", "redo", "note", "back", "", "", "", ""])
        if step == "note":
            word = dice.choice(THINGS)
            self.check(desk.note(word), None)
            slow.noted[word] = slow.at
        elif step == "back" and slow.noted:
            word = dice.choice(sorted(slow.noted))
            self.check(desk.back(word), None)
            slow.at = slow.noted[word]
        elif step == "undo":
            if slow.at:
                self.check(desk.undo(), None)
                slow.at -= 1
            else:
                self.check_refused(desk, NothingToUndo, 0, desk.undo)
        elif step == "redo":
            if slow.at < len(slow.deeds):
                self.check(desk.redo(), None)
                slow.at += 1
            else:
                self.check_refused(desk, NothingToRedo, slow.at, desk.redo)

    def test_all_the_way_back_and_on(self):
        for seed in range(30):
            desk, slow = drawn_desk(random.Random(seed), 30)
            while slow.at:
                desk.undo()
                slow.at -= 1
                self.check_desk(desk, slow)
            while slow.at < len(slow.deeds):
                desk.redo()
                slow.at += 1
                self.check_desk(desk, slow)

    def test_journals_there_and_back(self):
        for seed in range(100, 160):
            desk, slow = drawn_desk(random.Random(seed), 25)
            text = desk_text(desk)
            self.check(text, slow.journal())
            again = read_desk(text)
            self.check_desk(again, slow)
            self.check(desk_text(again), text)
            if slow.at < len(slow.deeds):
                again.redo()
                slow.at += 1
                self.check_desk(again, slow)


class Journals(DeskCase):
    def check_text(self, text):
        """read_desk tells what the slow way tells."""
        wanted = first_wrong(text)
        if wanted is None:
            self.check(desk_text(read_desk(text)), text)
        else:
            self.check_number(BadDesk, wanted, read_desk, text)
        return wanted

    def spoilt(self, line):
        words = line.split(" ")
        found = [line + " ", " " + line, line + "x", "x" + line, line[:-1], line[1:], line.upper(), "", line + " 1",
                 line.replace(" ", "  ", 1), line.replace(" ", "\t"), " ".join(words[::-1]), words[0], line + "\n",
                 line.replace("-", ""), line + " -", "# " + line, line.replace("1", "01"), line.replace("1", "+1")]
        for at, word in enumerate(words):
            others = ["", "A", "-", "0", "-1", "9", "town", "ann", "zzz", word + "a" * 12, "999999999", "1000000000"]
            found += [" ".join(words[:at] + [other] + words[at + 1:]) for other in others]
            found.append(" ".join(words[:at] + words[at + 1:]))
        return found

    def test_the_settled_desk(self):
        self.check(desk_text(settled()), JOURNAL)
        self.check(desk_text(read_desk(JOURNAL)), JOURNAL)
        self.check(read_desk(JOURNAL).all_deeds(), (tuple(SETTLED), ()))
        self.check(first_wrong(JOURNAL), None)

    def test_each_line_spoilt(self):
        desk = settled()
        desk.undo()
        for word, many in (("m", 3), ("k", 0), ("z9", 2)):
            for _ in range(many):
                desk.undo()
            desk.note(word)
        lines = desk_text(desk).split("\n")
        self.check(lines[:4], ["stand 11", "note k 13", "note m 13", "note z9 11"])
        wrong = set()
        for at, line in enumerate(lines):
            for other in self.spoilt(line):
                wrong.add(self.check_text("\n".join(lines[:at] + [other] + lines[at + 1:])))
        self.assertTrue({1, 2, 3, 4, len(lines) + 1, None} <= wrong)

    def test_each_line_left_out_put_twice_or_elsewhere(self):
        desk = settled()
        desk.note("m")
        desk.undo()
        desk.note("k")
        lines = desk_text(desk).split("\n")
        for at, line in enumerate(lines):
            self.check_text("\n".join(lines[:at] + lines[at + 1:]))
            self.check_text("\n".join(lines[:at] + [line] + lines[at:]))
            self.check_text("\n".join(lines[:at]))
            for to in range(len(lines)):
                rest = lines[:at] + lines[at + 1:]
                self.check_text("\n".join(rest[:to] + [line] + rest[to:]))

    def test_drawn_journals_spoilt(self):
        dice = random.Random(15)
        for seed in range(200, 230):
            desk, _ = drawn_desk(random.Random(seed), 12)
            lines = desk_text(desk).split("\n")
            for _ in range(40):
                at = dice.randrange(len(lines))
                self.check_text("\n".join(lines[:at] + [dice.choice(self.spoilt(lines[at]))] + lines[at + 1:]))

    def test_the_shortest_journals(self):
        self.check((read_desk("stand 0").names, read_desk("stand 0").all_deeds()), ((), ((), ())))
        self.check(desk_text(Desk()), "stand 0")
        for text, number in (
                ("", 1), ("stand", 1), ("stand 00", 1), ("stand -0", 1), ("stand -1", 1), ("stand 1", 1),
                ("stand 0\n", 2), ("\nstand 0", 1), ("stand 0 0", 1), ("stand 1000000000", 1), ("note a 0", 1),
                ("stand 0\nnote a 1", 2), ("stand 0\nnote a 0\nnote a 0", 3), ("stand 0\nnote b 0\nnote a 0", 3),
                ("stand 1\nnote a 9", 1), ("stand 0\nnote a -1", 2), ("stand 0\nnote a 1\nnote b 1000000000", 3),
                ("stand 0\nstand 0", 2), ("stand 5\nnote a 5\ndrop a", 3), ("stand 0\nnote - 0", 2)):
            self.check(first_wrong(text), number)
            self.check_number(BadDesk, number, read_desk, text)

    def test_lacking_lines_of_a_text(self):
        town = ["stand 1", "register town 3"] + TOWN.split("\n")
        for more, number in ((["table flu town 1"], 7), (["table flu town 1", ""], None), (["table flu none 1"], 7),
                             (["table town town 2", ""], 8), (["table flu none 1", ""], 6), (["register A 2"], 6),
                             (["register town 2", "x"], 8), (["register town 1", "x"], 6), (["register b 0"], 6),
                             (["drop none", "register b 5"], 6), (["register b 999999999"], 7),
                             (["register b 1000000000"], 6), (["table flu A 3"], 6), (["table flu town 2", "", ""], 6),
                             (["register b 2", "column age line"], 8), (["register b 2 2"], 6),
                             (["register b 2", "x", "y"], 6)):
            text = "\n".join(town + more)
            self.check(first_wrong(text), number)
            self.check_text(text)

    def test_lines_that_are_too_short_or_too_long(self):
        lines = JOURNAL.split("\n")
        for at, line in enumerate(lines):
            words = line.split(" ")
            for many in range(len(words)):
                self.check_text("\n".join(lines[:at] + [" ".join(words[:many])] + lines[at + 1:]))
            for more in ("", "-", "1", "a", "1..2", "north"):
                self.check_text("\n".join(lines[:at] + [" ".join(words + [more])] + lines[at + 1:]))
        for word in PARTS + ["stand", "note", "undo"]:
            for rest in ("", " ", " flu", " town", " flu ", " town 1", " flu 1", " flu -", " flu 1 1..2", " town e 1"):
                self.check_text(JOURNAL + "\n" + word + rest)

    def test_stand_and_notes_are_told_last(self):
        deeds = ["register town 3"] + TOWN.split("\n") + ["copy town b"]
        for head, number in ((["stand 3"], 1), (["stand 2"], None), (["stand 0", "note a 2", "note b 3"], 3),
                             (["stand 3", "note a 3"], 1), (["stand 0", "note a 3", "note b 9"], 2),
                             (["stand 999999999", "note a 999999999"], 1)):
            self.check(first_wrong("\n".join(head + deeds)), number)
            self.check_text("\n".join(head + deeds))
            self.check_text("\n".join(head + deeds + ["drop none"]))
        self.check_number(BadDesk, 7, read_desk, "\n".join(["stand 9", "note b 9"] + deeds[:4] + ["drop no"]))

    def test_no_text(self):
        for text in anything() + [b"stand 0", ("stand 0",), 0, settled()]:
            if not isinstance(text, str):
                self.check_number(BadDesk, 0, read_desk, text)
            else:
                self.check_number(BadDesk, 1, read_desk, text)

    def test_great_journals(self):
        many = 4000
        lines = ["register a 1", "column age line"] + [f"copy a b{at}" for at in range(many)]
        notes = [f"note {word} {number}" for word, number in sorted([(f"n{at}", at * 7 % many) for at in range(500)])]
        text = "\n".join(["stand 5"] + notes + lines)
        desk = read_desk(text)
        self.check((len(desk), desk_text(desk) == text), (5, True))
        desk.back("n499")
        self.check(len(desk), 499 * 7 % many)


class Deeds(DeskCase):
    def test_what_is_told_stays(self):
        desk = settled()
        self.check(desk.told_of("flu"), (("bob", "no"),))
        self.check(desk.told_of("pox"), (("bob", "no"),))
        self.check(desk.thing_of("flu").text, "row 30..34 yes\nrow -5..50 no")
        self.check(desk.thing_of("pox").text, "row 30..30 yes\nrow 30..34 no\nrow -5..50 no")
        self.check(desk.names, ("flu", "home", "old", "pox", "town"))
        desk.lead(("person", "town", "dee", (0,)))
        self.check(desk.thing_of("flu").census.persons[3], ("dee", (0,)))
        self.check((len(desk.thing_of("town")), len(desk.thing_of("pox").census)), (4, 4))
        desk.undo()
        self.check((len(desk.thing_of("flu").census), desk.thing_of("flu").census == desk.thing_of("town")), (3, True))

    def test_out_takes_the_place_of_what_was_told(self):
        desk = settled()
        for secret in ("yes", "", "no", "other"):
            desk.lead(("out", "flu", "bob", secret))
            self.check(desk.told_of("flu"), (("bob", secret),))
        desk.lead(("out", "flu", "ann", "yes"))
        self.check(desk.told_of("flu"), (("ann", "yes"), ("bob", "other")))
        for call, parts in ((desk.sure_of, ("flu",)), (desk.secrets_of, ("flu", "ann"))):
            with self.assertRaises(NoWorld) as caught:
                call(*parts)
            self.assertIn(caught.exception.value, [("persons", (1,)), ("persons", (0, 1))])
        desk.lead(("hush", "flu", "bob"))
        self.check(desk.told_of("flu"), (("ann", "yes"),))

    def test_a_copy_goes_its_own_way(self):
        desk = settled()
        desk.lead(("copy", "town", "city"))
        desk.lead(("person", "city", "zoe", (1,)))
        self.check((len(desk.thing_of("town")), len(desk.thing_of("city"))), (3, 4))
        self.check((desk.register_of("flu"), desk.register_of("pox")), ("town", "town"))
        desk.lead(("drop", "city"))
        desk.lead(("drop", "pox"))
        self.check("pox" in desk, False)
        self.check_refused(desk, InUse, "flu", desk.lead, ("drop", "town"))
        desk.lead(("drop", "flu"))
        desk.lead(("drop", "town"))
        self.check(desk.names, ("home", "old"))

    def test_what_is_in_a_desk(self):
        desk = settled()
        for value in anything() + ["Town", "town ", ("town",), ["town"], 0, b"town"]:
            self.check(value in desk, False)
        self.check(("town" in desk, "flu" in desk, len(desk), len(Desk()), Desk().names), (True, True, 5, 0, ()))

    def test_led_deeds_forget_undone_ones_and_their_notes(self):
        desk = desk_of(*SETTLED[:5])
        desk.note("five")
        desk.undo()
        desk.note("four")
        desk.undo()
        desk.note("three")
        self.check(desk.notes(), (("five", 5), ("four", 4), ("three", 3)))
        self.check_refused(desk, NoName, "zzz", desk.lead, ("drop", "zzz"))
        self.check(len(desk.all_deeds()[1]), 2)
        desk.lead(("copy", "town", "b"))
        self.check((desk.notes(), desk.all_deeds()[1]), ((("three", 3),), ()))
        self.check_refused(desk, NoNote, "four", desk.back, "four")
        self.check_refused(desk, NothingToRedo, 4, desk.redo)
        desk.back("three")
        self.check(desk.names, ("flu", "town"))
        desk.note("three")
        desk.redo()
        self.check("b" in desk, True)

    def test_a_note_can_be_put_elsewhere(self):
        desk = desk_of(*SETTLED[:3])
        desk.note("here")
        desk.undo()
        desk.note("here")
        self.check(desk.notes(), (("here", 2),))
        desk.redo()
        desk.back("here")
        self.check(desk.names, ("town",))

    def test_equal_calls(self):
        one, other = settled(), settled()
        self.check((one.sure_of("flu"), desk_text(one)), (other.sure_of("flu"), desk_text(other)))
        one.undo()
        one.redo()
        self.check(one.secrets_of("pox", "cid"), other.secrets_of("pox", "cid"))
        self.check(one.thing_of("flu") == other.thing_of("flu"), True)


class WrongInputs(DeskCase):
    def refuse(self, error, value, deed, desk=None):
        desk = desk or settled()
        self.check_refused(desk, error, value, desk.lead, deed)

    def test_bad_deeds(self):
        desk = settled()
        for deed in SETTLED:
            for wrong in (deed[:-1], deed + (0,), list(deed), (deed,), deed[1:], (deed[0].upper(),) + deed[1:],
                          (deed[0] + " ",) + deed[1:], ((deed[0],),) + deed[1:], deed[::-1], {deed[0]: deed[1:]}):
                self.check_raises(BadDeed, wrong, desk.lead, wrong)
        wrong = [("undo",), ("note", "a"), ("stand", 1), "drop a", (["drop"], "a"), (0, "a"), ("drop",), (None, "a")]
        for deed in anything() + wrong:
            self.check_raises(BadDeed, deed, desk.lead, deed)
        self.check(desk_text(desk), JOURNAL)

    def test_names_of_things(self):
        desk = settled()
        table_deeds = [("row", None, None), ("strike", None), ("marks", None, None), ("out", None, None),
                       ("hush", None)]
        for word, *rest in [("person", None, None), ("copy", "A"), ("drop",)] + table_deeds:
            for name in anything() + ["zzz", "Town", "town ", 0, "ann", "none"]:
                self.check_raises(NoName, name, desk.lead, (word, name, *rest))
        for word, *rest in table_deeds:
            self.refuse(NotThat, "town", (word, "town", *rest), desk)
        self.refuse(NotThat, "flu", ("person", "flu", None, None), desk)
        for name in anything() + ["zzz", 0]:
            self.check_raises(NoName, name, desk.lead, ("table", "new", name, None))
        self.refuse(NotThat, "flu", ("table", "new", "flu", None), desk)

    def test_new_names(self):
        desk = settled()
        for name in NO_NAMES + anything():
            self.check_raises(BadName, name, desk.lead, ("register", name, None))
            self.check_raises(BadName, name, desk.lead, ("table", name, "zzz", None))
            self.check_raises(BadName, name, desk.lead, ("copy", "flu", name))
            self.check_raises(NoName, "zzz", desk.lead, ("copy", "zzz", name))
        for name in desk.names:
            self.refuse(Held, name, ("register", name, None), desk)
            self.refuse(Held, name, ("table", name, "zzz", None), desk)
            self.refuse(Held, name, ("copy", "flu", name), desk)

    def test_bad_texts(self):
        for text, number in ((None, 0), (b"", 0), ("", 1), ("column age line\n", 2), ("column age kinds", 2)):
            self.refuse(BadRegister, number, ("register", "new", text))
        twice = ROWS + "\n" + ROWS
        for text, number in ((None, 0), ((), 0), ("row", 1), (ROWS + "\n", 3), (twice, 4), ("row 1..2 a b", 1)):
            self.refuse(BadTable, number, ("table", "new", "town", text))

    def test_bad_persons(self):
        sixty = desk_of(("register", "r", "\n".join(["column age line"] + [f"person p{at} 1" for at in range(60)])))
        for desk, name, held in ((settled(), "town", "ann"), (sixty, "r", "p7")):
            for person in NO_NAMES + anything() + [held]:
                self.refuse(BadPerson, (person, (1,)), ("person", name, person, (1,)), desk)
                self.refuse(BadPerson, (person, None), ("person", name, person, None), desk)
            for values in anything() + [(1, 2), [1], ("1",), (True,), (1000001,), (None,), 1]:
                self.refuse(BadPerson, ("new", values), ("person", name, "new", values), desk)
        self.refuse(TooMany, 60, ("person", "r", "new", (1,)), sixty)
        self.refuse(BadPerson, ("eva", (1, "south")), ("person", "home", "eva", (1, "south")))

    def test_bad_rows(self):
        full = desk_of(("register", "r", TOWN), ("table", "flu", "r", ROWS))
        sixty = desk_of(("register", "r", "\n".join(["column age line"] + [f"person p{at} 1" for at in range(60)])),
                        ("table", "flu", "r", "\n".join(["row 1..1 a"] * 60)))
        for desk in (settled(), full, sixty):
            for marks in anything() + [(1, 2), ((2, 1),), ((1, 2), "all"), [(1, 2)], ((1, True),), ("all",)]:
                self.refuse(BadMarks, marks, ("row", "flu", marks, None), desk)
                self.refuse(BadMarks, marks, ("marks", "flu", 0, marks), desk)
            for secret in NO_NAMES + anything():
                self.refuse(BadSecret, secret, ("row", "flu", ((1, 2),), secret), desk)
        self.refuse(TooMany, 2, ("row", "flu", ((1, 2),), "a"), full)
        self.refuse(TooMany, 60, ("row", "flu", ((1, 2),), "a"), sixty)
        for row in anything() + [2, 3, -2, "0", (0,), True]:
            self.refuse(NoRow, row, ("strike", "flu", row), full)
            self.refuse(NoRow, row, ("marks", "flu", row, None), full)

    def test_bad_tellings(self):
        desk = settled()
        for person in anything() + ["zoe", "age", "flu", 0, "eve"]:
            self.refuse(NoPerson, person, ("out", "flu", person, None), desk)
            self.refuse(NoPerson, person, ("hush", "flu", person), desk)
            self.check_refused(desk, NoPerson, person, desk.secrets_of, "flu", person)
        for secret in [name for name in NO_NAMES + anything() if name != ""]:
            self.refuse(BadSecret, secret, ("out", "flu", "ann", secret), desk)
        self.refuse(NotTold, "ann", ("hush", "flu", "ann"), desk)
        self.refuse(NotTold, "cid", ("hush", "pox", "cid"), desk)

    def test_registers_in_use(self):
        desk = desk_of(("register", "r", TOWN), ("table", "z", "r", ""), ("table", "b", "r", ""), ("copy", "b", "c"))
        self.refuse(InUse, "b", ("drop", "r"), desk)
        desk.lead(("drop", "b"))
        self.refuse(InUse, "c", ("drop", "r"), desk)
        desk.lead(("copy", "r", "a"))
        desk.lead(("drop", "a"))
        self.refuse(InUse, "c", ("drop", "r"), desk)

    def test_asking_for_things(self):
        desk = settled()
        for name in anything() + ["zzz", "none", "Town", 0, b"town"]:
            for call, *rest in ((desk.thing_kind,), (desk.thing_of,), (desk.register_of,), (desk.told_of,),
                                (desk.secrets_of, None), (desk.sure_of,)):
                self.check_raises(NoName, name, call, name, *rest)
        for call, *rest in ((desk.register_of,), (desk.told_of,), (desk.secrets_of, None), (desk.sure_of,)):
            self.check_refused(desk, NotThat, "town", call, "town", *rest)

    def test_steps_that_cannot_be(self):
        desk = Desk()
        self.check_refused(desk, NothingToUndo, 0, desk.undo)
        self.check_refused(desk, NothingToRedo, 0, desk.redo)
        desk = settled()
        self.check_refused(desk, NothingToRedo, 17, desk.redo)
        for word in NO_NAMES + anything():
            self.check_refused(desk, BadName, word, desk.note, word)
        for word in anything() + ["zzz", "town", 0, b"a"]:
            self.check_refused(desk, NoNote, word, desk.back, word)
        self.check(desk_of(*desk.all_deeds()[0]).thing_of("flu") == Table(Register(TOWN + "\nperson cid 41"),
                                                                         "row 30..34 yes\nrow -5..50 no"), True)
