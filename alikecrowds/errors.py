"""The errors of the package: each one keeps what it tells as `value`."""


class CrowdError(ValueError):
    """What all errors of the package are."""

    def __init__(self, value):
        self.value = value


class BadRegister(CrowdError):
    """No text of a register: the number of its first wrong line."""


class BadColumns(CrowdError):
    """No columns as they are asked for."""


class BadKinds(CrowdError):
    """No kinds as they are asked for."""


class BadPersons(CrowdError):
    """No persons that a register can have."""


class NoColumn(CrowdError):
    """No name of a column that is asked for."""


class NoPerson(CrowdError):
    """No name of a person of the register."""


class NoKind(CrowdError):
    """No kind of the column."""


class BadTable(CrowdError):
    """No text of a table: the number of its first wrong line."""


class BadRows(CrowdError):
    """No rows that a table can have."""


class BadMark(CrowdError):
    """No mark of the column."""


class BadValue(CrowdError):
    """No value as it is asked for."""


class BadValues(CrowdError):
    """No values as they are asked for."""


class NoRow(CrowdError):
    """No number of a row."""


class BadMarks(CrowdError):
    """No marks as they are asked for."""


class NoWorld(CrowdError):
    """There is no world: what shows it."""


class BadLot(CrowdError):
    """No lot of rows."""


class BadNumber(CrowdError):
    """No integer as it is asked for."""


class TooMany(CrowdError):
    """There are too many: how many there are, or may be."""


class BadWorld(CrowdError):
    """No world of the table."""


class BadSecret(CrowdError):
    """No secret that a row could have."""


class BadSize(CrowdError):
    """No size of crowds."""


class BadStretch(CrowdError):
    """No stretch of the values."""


class BadCrowds(CrowdError):
    """No crowds as they are asked for."""


class BadShown(CrowdError):
    """Not what can be shown of the crowds."""


class NoCrowds(CrowdError):
    """There are no crowds of this size: how many values there are."""


class BadLoss(CrowdError):
    """No loss as it is asked for."""


class BadColumn(CrowdError):
    """No name of a column of kinds of the register."""


class BadCounts(CrowdError):
    """No counts for the column."""


class BadLifts(CrowdError):
    """No lifts for the column."""


class BadCrowd(CrowdError):
    """No crowd of persons of the register."""


class BadSecrets(CrowdError):
    """Not a secret for each person."""


class BadSequence(CrowdError):
    """Not all persons in a sequence."""


class BadTold(CrowdError):
    """Not what can be told of a table."""


class BadNames(CrowdError):
    """No names of persons as they are asked for."""


class OtherRegister(CrowdError):
    """The tables are for unlike registers."""


class NoJoint(CrowdError):
    """There is no joint world."""


class Full(CrowdError):
    """There is no room for one more: how many there are."""


class BadName(CrowdError):
    """No name as it is asked for."""


class Held(CrowdError):
    """The name is in use already."""


class TooFew(CrowdError):
    """There are too few persons: how many there are."""


class Unlike(CrowdError):
    """The tables have unlike registers, or not as many rows."""


class BadDeed(CrowdError):
    """No deed of a desk."""


class NoName(CrowdError):
    """No name of a thing of the desk."""


class NotThat(CrowdError):
    """The thing is not what is asked for."""


class InUse(CrowdError):
    """The register has a table: the name of one."""


class BadPerson(CrowdError):
    """Not what can be the last person of the register."""


class NotTold(CrowdError):
    """Nothing is told of the person."""


class NothingToUndo(CrowdError):
    """No deed stands."""


class NothingToRedo(CrowdError):
    """No deed was undone: how many stand."""


class NoNote(CrowdError):
    """No word of a note."""


class BadDesk(CrowdError):
    """No text of a desk: the number of its first wrong line."""
