"""Tests of the errors: their bases, their attributes, their constructors."""

import unittest

from fademodes import errors

LISTED = {
    "FadeError": {
        "InvalidNumber": "value", "InvalidName": "value", "InvalidCut": "value", "InvalidStretch": "value",
        "InvalidRange": "value", "InvalidMove": "part", "InvalidRule": "part position", "InvalidLevels": "key",
        "InvalidModes": "key", "InvalidRules": "mode letter position", "InvalidPlace": "value",
        "InvalidPosition": "value", "InvalidState": "value", "InvalidHistory": "position",
        "InvalidStarts": "position", "InvalidCell": "value", "InvalidRows": "position", "InvalidCount": "value",
        "InvalidSide": "value", "InvalidPaper": "value", "InvalidHand": "position", "InvalidBad": "position",
        "InvalidPrices": "value", "InvalidHeard": "position", "InvalidProgram": "value", "InvalidText": "line",
        "InvalidClaim": "value", "InvalidCommand": "value", "OtherLetters": "letter", "TooMany": "kind limit",
    },
    "MissingError": {"UnknownMode": "value", "UnknownLetter": "value", "UnknownLevel": "value",
                     "UnknownName": "value"},
    "StateError": {"NameTaken": "name", "NothingToUndo": "", "DividedByZero": ""},
}
ROOTS = {"FadeError": ValueError, "MissingError": LookupError, "StateError": RuntimeError}
CLASSES = [(base, name, fields.split()) for base in LISTED for name, fields in LISTED[base].items()]


class Errors(unittest.TestCase):
    def test_bases(self):
        for base, root in ROOTS.items():
            self.assertEqual(getattr(errors, base).__bases__, (root,))
        for base, name, _ in CLASSES:
            found = getattr(errors, name)
            self.assertEqual(found.__bases__, (getattr(errors, base),), name)
            self.assertEqual(found.__module__, "fademodes.errors")

    def test_nothing_else(self):
        wanted = {name for _, name, _ in CLASSES} | set(ROOTS)
        self.assertEqual({name for name in vars(errors) if not name.startswith("_")}, wanted)

    def test_attributes_by_place_and_by_name(self):
        for _, name, fields in CLASSES:
            values = [(field, number) for number, field in enumerate(fields)]
            by_place = getattr(errors, name)(*values)
            by_name = getattr(errors, name)(**dict(zip(fields, values)))
            for made in (by_place, by_name):
                self.assertEqual(vars(made), dict(zip(fields, values)), name)

    def test_wrong_constructors(self):
        for _, name, fields in CLASSES:
            made = getattr(errors, name)
            if fields:
                self.assertRaises(TypeError, made, *([1] * (len(fields) + 1)))
                self.assertRaises(TypeError, made, *([1] * (len(fields) - 1)))
                self.assertRaises(TypeError, made, *([1] * (len(fields) - 1)), other=1)


if __name__ == "__main__":
    unittest.main()
