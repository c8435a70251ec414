"""The errors: their parents, their constructors and their attributes."""

import inspect
import unittest

from flowyard import errors
from helper import odd_values

VALUE_ERRORS = [
    "InvalidIns(value)", "InvalidOuts(value)", "InvalidStandings(position)",
    "InvalidStations(position)", "InvalidPipes(position)", "InvalidBegin(value)",
    "InvalidStation(value)", "InvalidStanding(value)", "InvalidExit(value)",
    "InvalidStream(value)", "InvalidState(value)", "InvalidSizes(value)", "InvalidRun(position)",
    "InvalidBeat(value)", "InvalidOrder(value)", "InvalidNumber(value)", "InvalidSign(value)",
    "InvalidText(value)", "InvalidTerm(value)", "InvalidPipe(value)", "InvalidRest(value)",
    "InvalidLap(value)", "InvalidGoals(position)", "InvalidLots(position)", "InvalidLot(value)",
    "InvalidPlace(value)", "InvalidWhole(value)", "InvalidRests(value)", "InvalidNew(value)",
    "InvalidImage(value)", "InvalidPatch(position)", "InvalidPart(value)", "InvalidLines(line)",
    "InvalidEntry(value)", "InvalidClaim(value)", "InvalidName(value)", "InvalidCommand(value)",
    "InvalidRow(value)",
]
MISSING_ERRORS = ["UnknownBeat(value)", "UnknownName(value)"]
STATE_ERRORS = [
    "CannotBeDone(value)", "NotHeld(stream)", "NotEnough(stream)", "OtherExits(one, other)",
    "NothingToUndo()", "CommandFailed(position)", "CannotFuse(value)", "NeverHeard(value)",
    "PatchesClash(value)", "TakenName(value)",
]
LIMIT_ERRORS = ["TooMany(what, limit)"]
FAMILIES = [
    (ValueError, "FlowError", VALUE_ERRORS),
    (LookupError, "MissingError", MISSING_ERRORS),
    (RuntimeError, "StateError", STATE_ERRORS),
    (ArithmeticError, "LimitError", LIMIT_ERRORS),
]


def each_error():
    """For each error its class, its parent and the names of its parameters."""
    for _, parent, rows in FAMILIES:
        for row in rows:
            name, names = row[:-1].split("(")
            yield getattr(errors, name), getattr(errors, parent), [word for word in names.split(", ") if word]


def attributes_of(made, names):
    return {name: getattr(made, name) for name in names}


class Parents(unittest.TestCase):
    def test_the_four_families_stand_below_errors_of_python(self):
        for builtin, name, _ in FAMILIES:
            self.assertEqual(getattr(errors, name).__bases__, (builtin,), name)

    def test_each_error_stands_directly_below_its_family_alone(self):
        for error, parent, _ in each_error():
            self.assertEqual(error.__bases__, (parent,), error)

    def test_all_are_defined_in_this_file(self):
        for error, parent, _ in each_error():
            self.assertEqual(error.__module__, "flowyard.errors")
            self.assertEqual(parent.__module__, "flowyard.errors")
        self.assertEqual(len(list(each_error())), 38 + 2 + 10 + 1)

    def test_each_is_raised_and_caught_by_its_parents(self):
        for error, parent, names in each_error():
            for caught in (error, parent, parent.__base__):
                with self.assertRaises(caught):
                    raise error(*names)


class Attributes(unittest.TestCase):
    def test_parameters_have_the_names_of_the_attributes(self):
        for error, _, names in each_error():
            self.assertEqual(list(inspect.signature(error).parameters), names, error)
            self.assertIn("__init__", vars(error))

    def test_made_by_position(self):
        for error, _, names in each_error():
            made = error(*[[name, 1] for name in names])
            self.assertEqual(attributes_of(made, names), {name: [name, 1] for name in names}, error)

    def test_made_by_name(self):
        for error, _, names in each_error():
            made = error(**{name: (name,) for name in reversed(names)})
            self.assertEqual(attributes_of(made, names), {name: (name,) for name in names}, error)

    def test_made_with_values_of_all_kinds(self):
        for error, _, names in each_error():
            for value in odd_values() + [[], (), [None], "", 0, -3]:
                made = error(*[value for _ in names])
                for name in names:
                    self.assertEqual(repr(getattr(made, name)), repr(value), error)


if __name__ == "__main__":
    unittest.main()
