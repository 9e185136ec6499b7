"""Points 2 and 16: the errors."""

import inspect

from alikecrowds import errors
from alikecrowds.errors import CrowdError
from samples import CrowdCase, anything

NAMES = """
    BadRegister BadColumns BadKinds BadPersons NoColumn NoPerson NoKind BadTable BadRows
    BadMark BadValue BadValues NoRow BadMarks NoWorld BadLot BadNumber TooMany BadWorld
    BadSecret BadSize BadStretch BadCrowds BadShown NoCrowds BadLoss BadColumn BadCounts
    BadLifts BadCrowd BadSecrets BadSequence BadTold BadNames OtherRegister NoJoint Full
    BadName Held TooFew Unlike BadDeed NoName NotThat InUse BadPerson NotTold NothingToUndo
    NothingToRedo NoNote BadDesk
""".split()


class Errors(CrowdCase):
    def test_all_stand_in_the_file(self):
        found = [name for name, _ in inspect.getmembers(errors, inspect.isclass)]
        self.assertEqual(found, sorted(NAMES + ["CrowdError"]))
        for name in found:
            self.assertEqual(getattr(errors, name).__module__, "alikecrowds.errors")
            self.assertEqual(getattr(errors, name).__name__, name)

    def test_each_derives_directly(self):
        self.assertEqual(CrowdError.__bases__, (ValueError,))
        for name in NAMES:
            self.assertEqual(getattr(errors, name).__bases__, (CrowdError,), name)

    def test_each_keeps_any_value(self):
        for name in NAMES + ["CrowdError"]:
            for value in anything() + [0, 1, "age", ("a", 1), object()]:
                self.assertIs(getattr(errors, name)(value).value, value)

    def test_each_takes_just_one_argument(self):
        for name in NAMES + ["CrowdError"]:
            with self.assertRaises(TypeError):
                getattr(errors, name)()
            with self.assertRaises(TypeError):
                getattr(errors, name)(1, 2)

    def test_each_is_caught_by_itself_and_those_above(self):
        for name in NAMES:
            for caught in (getattr(errors, name), CrowdError, ValueError):
                with self.assertRaises(caught) as told:
                    raise getattr(errors, name)(("a", 1))
                self.check(told.exception.value, ("a", 1))
        self.assertFalse(issubclass(errors.BadMark, errors.BadMarks))
