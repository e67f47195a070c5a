"""Errors: all classes of the interface, their bases, their attributes."""

import inspect
import re
import unittest

import citylines.errors as errors
from helpers import Case, OTHERS

LISTED = """
- ValueError: `CityError`. CityError: `InvalidCity(value)`, `InvalidLine(value)`, `InvalidPlan(value)`, `InvalidCourse(value)`, `InvalidRide(value)`, `InvalidStop(value)`, `InvalidMinute(value)`, `InvalidText(value)`, `InvalidMany(value)`, `BadText(line)`, `InvalidAccount(value)`, `InvalidArrival(value)`, `InvalidBlock(value)`, `InvalidClaim(value)`, `InvalidCommand(value)`, `InvalidDeeds(position)`, `InvalidDelay(value)`, `InvalidDeparture(value)`, `InvalidDuty(value)`, `InvalidEvery(value)`, `InvalidFeed(value)`, `InvalidFeeds(value)`, `InvalidHeard(position)`, `InvalidHop(value)`, `InvalidLevel(value)`, `InvalidLines(value)`, `InvalidMeet(value)`, `InvalidNotice(value)`, `InvalidPaper(value)`, `InvalidPassages(value)`, `InvalidPlace(value)`, `InvalidPosition(value)`, `InvalidRemedy(value)`, `InvalidSign(value)`, `InvalidStanding(value)`, `InvalidTable(value)`, `InvalidTaps(value)`, `InvalidTickets(value)`, `InvalidTimes(value)`, `InvalidTravels(value)`, `InvalidTrip(value)`, `InvalidTrips(value)`, `InvalidTurn(value)`, `InvalidWay(value)`, `InvalidWord(value)`, `UnsoundPlan(word)`.
- LookupError: `MissingError`. MissingError: `UnknownLabel(value)`, `UnknownName(value)`.
- RuntimeError: `StateError`. StateError: `CommandFailed(position)`, `LabelTaken(label)`, `Missed(rider, place)`, `NameTaken(name)`, `NoSpares()`, `NotCompared()`, `NothingToRedo()`, `NothingToUndo()`, `UnlikeBudgets()`, `UnlikeStops()`, `WithHeard()`, `WithSpares()`.
- ArithmeticError: `LimitError`. LimitError: `TooMany(what, limit)`.
"""

PYTHONS_OWN = {kind.__name__: kind for kind in (ValueError, LookupError, RuntimeError, ArithmeticError)}


def rows():
    """Tuples (base, name, attributes), as the interface lists them."""
    found = []
    for base, names in re.findall(r"(\w+): ((?:`[^`]+`(?:, )?)+)", LISTED):
        for name, attributes in re.findall(r"`(\w+)(?:\(([^)]*)\))?`", names):
            found.append((base, name, [word for word in attributes.split(", ") if word]))
    return found


class Errors(Case):
    def test_all_are_read(self):
        self.assertEqual(65, len(rows()))
        self.assertIn(("StateError", "Missed", ["rider", "place"]), rows())
        self.assertIn(("RuntimeError", "StateError", []), rows())
        self.assertIn(("CityError", "UnsoundPlan", ["word"]), rows())

    def test_bases(self):
        for base, name, _ in rows():
            above = PYTHONS_OWN[base] if base in PYTHONS_OWN else getattr(errors, base)
            self.assertEqual((above,), getattr(errors, name).__bases__, name)

    def test_defined_in_this_file_and_no_others(self):
        classes = {name for name, kind in inspect.getmembers(errors, inspect.isclass)}
        self.assertEqual({name for _, name, _ in rows()}, classes)
        for name in classes:
            self.assertEqual("citylines.errors", getattr(errors, name).__module__)

    def test_attributes_by_position_and_by_name(self):
        for _, name, attributes in rows():
            kind = getattr(errors, name)
            for value in OTHERS:
                values = [(value, at) for at in range(len(attributes))]
                values = [value] if len(attributes) == 1 else values
                for error in (kind(*values), kind(**dict(zip(attributes, values)))):
                    self.assertEqual(len(attributes), len(vars(error)), name)
                    for attribute, given in zip(attributes, values):
                        self.assertIs(given, getattr(error, attribute))
                    with self.assertRaises(kind):
                        raise error

    def test_parameters_are_the_attributes(self):
        for _, name, attributes in rows():
            if attributes:
                taken = list(inspect.signature(getattr(errors, name).__init__).parameters)
                self.assertEqual(["self"] + attributes, taken, name)
                self.assertIn("__init__", vars(getattr(errors, name)))


if __name__ == "__main__":
    unittest.main()
