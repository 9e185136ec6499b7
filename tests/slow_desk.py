"""A slow way to all that a desk tells: all its standings are kept, each of them as texts alone."""

import re

from alikecrowds.errors import CrowdError
from alikecrowds.registers import Register
from alikecrowds.tables import Table

NAME = "[a-z0-9]{1,12}"
NUMBER = "(?:0|[1-9][0-9]{0,8})"
VALUE = f"(?:-?[1-9][0-9]{{0,8}}|0|{NAME})"
FORMS = {
    "register": f"{NAME} [1-9][0-9]{{0,8}}", "table": f"{NAME} {NAME} [1-9][0-9]{{0,8}}",
    "person": f"{NAME} {NAME}(?: {VALUE})+", "row": f"{NAME}(?: [^ ]+)+ {NAME}", "strike": f"{NAME} {NUMBER}",
    "marks": f"{NAME} {NUMBER}(?: [^ ]+)+", "out": f"{NAME} {NAME} (?:{NAME}|-)", "hush": f"{NAME} {NAME}",
    "copy": f"{NAME} {NAME}", "drop": NAME,
}


def is_named(name):
    return re.fullmatch(NAME, name) is not None


def census_in(things, name):
    return Register(things[name][1])


def table_in(things, name):
    _, text, home, _ = things[name]
    return Table(census_in(things, home), text)


def text_lines(text):
    return text.split("\n") if text else []


def mark_text(marks):
    return " ".join([mark if isinstance(mark, str) else f"{mark[0]}..{mark[1]}" for mark in marks])


def after(things, deed):
    """The standing behind this deed, as a dict by names; None if it is refused."""
    things = dict(things)
    try:
        done = changed_by(things, *deed)
        return things if done else None
    except CrowdError:
        return None


def changed_by(things, word, name, *parts):
    """Whether the deed is done; then things are as behind it."""
    if word in ("register", "table"):
        if not is_named(name) or name in things:
            return False
        if word == "register":
            Register(parts[0])
            things[name] = ("register", parts[0])
            return True
        if things.get(parts[0], ("",))[0] != "register":
            return False
        things[name] = ("table", parts[1], parts[0], {})
        table_in(things, name)
        return True
    if name not in things:
        return False
    if word == "copy":
        if parts[0] in things or not is_named(parts[0]):
            return False
        things[parts[0]] = things[name]
        return True
    if word == "drop":
        used = [one for one, thing in things.items() if thing[0] == "table" and thing[2] == name]
        if things[name][0] == "register" and used:
            return False
        del things[name]
        return True
    if word == "person":
        if things[name][0] != "register":
            return False
        text = "\n".join([things[name][1], " ".join(["person", parts[0]] + [str(value) for value in parts[1]])])
        Register(text)
        things[name] = ("register", text)
        return True
    return things[name][0] == "table" and table_changed(things, word, name, *parts)


def table_changed(things, word, name, *parts):
    """Whether the deed at a table is done; then things are as behind it."""
    kind, text, home, told = things[name]
    census, lines, told = census_in(things, home), text_lines(text), dict(told)
    if word == "row":
        lines.append(f"row {mark_text(parts[0])} {parts[1]}")
    elif word in ("strike", "marks"):
        if not 0 <= parts[0] < len(lines):
            return False
        secret = lines[parts[0]].split(" ")[-1]
        lines[parts[0]:parts[0] + 1] = [f"row {mark_text(parts[1])} {secret}"] if word == "marks" else []
    elif word == "out":
        if parts[0] not in dict(census.persons) or not (parts[1] == "" or is_named(parts[1])):
            return False
        told[parts[0]] = parts[1]
    elif parts[0] in told:
        del told[parts[0]]
    else:
        return False
    things[name] = (kind, "\n".join(lines), home, told)
    table_in(things, name)
    return True


class SlowDesk:
    def __init__(self):
        self.standings = [{}]
        self.deeds = []
        self.at = 0
        self.noted = {}

    def things(self):
        return self.standings[self.at]

    def lead(self, deed):
        behind = after(self.things(), deed)
        if behind is None:
            return False
        self.deeds = self.deeds[:self.at] + [deed]
        self.standings = self.standings[:self.at + 1] + [behind]
        self.noted = {word: number for word, number in self.noted.items() if number <= self.at}
        self.at += 1
        return True

    def journal(self):
        lines = [f"stand {self.at}"] + [f"note {word} {number}" for word, number in sorted(self.noted.items())]
        for word, *parts in self.deeds:
            texts = parts.pop().split("\n") if word in ("register", "table") else []
            words = [mark_text(part) if isinstance(part, tuple) and word != "person" else
                     " ".join([str(value) for value in part]) if isinstance(part, tuple) else str(part) or "-"
                     for part in parts]
            lines += [" ".join([word] + words + ([str(len(texts))] if texts else []))] + texts
        return "\n".join(lines)


def part_in(word):
    """What a word of a line tells: an integer, or a string."""
    return int(word) if re.fullmatch("-?[1-9][0-9]{0,8}|0", word) else word


def marks_in(words):
    """Marks as the words write them; None for what writes none."""
    found = []
    for word in words:
        ends = re.fullmatch(r"(-?[1-9][0-9]{0,8}|0)\.\.(-?[1-9][0-9]{0,8}|0)", word)
        found.append(tuple([int(end) for end in ends.groups()]) if ends else word)
    return tuple(found)


def deed_in(things, words, texts):
    """The deed of these words; values are told by the columns of the register."""
    word, name = words[:2]
    if word in ("register", "table"):
        return tuple(words[:-1]) + ("\n".join(texts),)
    if word == "person":
        return (word, name, words[2], tuple(words[3:]))
    if word == "row":
        return (word, name, marks_in(words[2:-1]), words[-1])
    if word == "marks":
        return (word, name, int(words[2]), marks_in(words[3:]))
    if word == "strike":
        return (word, name, int(words[2]))
    return tuple(words[:-1]) + ("" if word == "out" and words[-1] == "-" else words[-1],)


def first_wrong(text):
    """The number that BadDesk tells for this text; None if it is a journal."""
    lines = text.split("\n")
    if not re.fullmatch(f"stand {NUMBER}", lines[0]):
        return 1
    noted = []
    at = 1
    while at < len(lines) and lines[at].split(" ")[0] == "note":
        form = re.fullmatch(f"note ({NAME}) ({NUMBER})", lines[at])
        if not form or (noted and noted[-1][0] >= form.group(1)):
            return at + 1
        noted.append((form.group(1), int(form.group(2))))
        at += 1
    things, deeds = {}, 0
    while at < len(lines):
        words = lines[at].split(" ")
        if words[0] not in FORMS or not re.fullmatch(f"{words[0]} {FORMS[words[0]]}", lines[at]):
            return at + 1
        many = int(words[-1]) if words[0] in ("register", "table") else 0
        if at + 1 + many > len(lines):
            return len(lines) + 1
        things = after(things, deed_in(things, words, lines[at + 1:at + 1 + many]))
        if things is None:
            return at + 1
        at += 1 + many
        deeds += 1
    for at, number in enumerate([int(lines[0].split(" ")[1])] + [number for _, number in noted], start=1):
        if number > deeds:
            return at
    return None
