"""Point [5]: the classes of errors, their fields, and what is derived from what."""

import unittest

from oddlamps import errors
from oddlamps.errors import LampError, NothingToRedo, NothingToUndo
from oddlamps.nets import Net

WITH_FIELD = [
    "InvalidLamp", "InvalidLamps", "InvalidTies", "InvalidWishes", "InvalidNet", "InvalidMap", "InvalidSetting",
    "InvalidRoad", "InvalidPiece", "InvalidWork", "InvalidPoints", "InvalidHeights", "InvalidCount", "InvalidForm",
    "InvalidShow", "InvalidWeights", "InvalidChange", "InvalidChanges", "InvalidHall", "InvalidSpot",
    "InvalidScript", "InvalidText", "InvalidLog", "Unlike", "Unpaired", "Apart", "Refused"]
THINGS = [None, True, 0, "", "a", [], ["a"], (), ("a", 1), {}, {"a": [1]}, LampError(), Net(["a"], [], {"a": "odd"})]


class Errors(unittest.TestCase):
    def classes(self):
        return [getattr(errors, name) for name in WITH_FIELD]

    def test_field_by_position_by_name_and_without(self):
        for made in self.classes():
            for thing in THINGS:
                self.assertIs(made(thing).value, thing)
                self.assertIs(made(value=thing).value, thing)
            self.assertIsNone(made().value)

    def test_without_a_field(self):
        for made in (LampError, NothingToUndo, NothingToRedo):
            self.assertFalse(hasattr(made(), "value"))
            with self.assertRaises(TypeError):
                made(value=3)

    def test_what_is_derived_from_what(self):
        self.assertEqual(LampError.__bases__, (ValueError,))
        for made in self.classes() + [NothingToUndo, NothingToRedo]:
            self.assertEqual(made.__bases__, (LampError,))

    def test_caught_by_their_own_names_alone(self):
        everyone = self.classes() + [NothingToUndo, NothingToRedo]
        for made in everyone:
            with self.assertRaises(LampError) as held:
                raise made()
            caught = [other for other in everyone if isinstance(held.exception, other)]
            self.assertEqual(caught, [made])

    def test_defined_in_their_file(self):
        names = WITH_FIELD + ["LampError", "NothingToUndo", "NothingToRedo"]
        for name in names:
            self.assertEqual(getattr(errors, name).__module__, "oddlamps.errors")
        held = [name for name in vars(errors) if isinstance(vars(errors)[name], type)]
        self.assertEqual(sorted(held), sorted(names))


if __name__ == "__main__":
    unittest.main()
