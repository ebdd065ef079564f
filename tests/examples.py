"""What several tests use: a test case that checks errors, and the program MUTE of the document."""

import unittest
from fractions import Fraction

from fademodes.cuts import Range
from fademodes.moves import Move
from fademodes.programs import Program, Rule
from fademodes.ratios import Ratio

ODD_VALUES = (None, True, False, "", "x", b"x", [], [1], (), {}, {"x": 1}, object(), int, Ratio(1), Range(0, 1))
NO_NUMBERS = tuple(value for value in ODD_VALUES if not isinstance(value, Ratio))


class Checks(unittest.TestCase):
    """A test case that can check which error a call raises, with which attributes."""

    def refuses(self, error, fields, call, *args, **named):
        with self.assertRaises(error) as caught:
            call(*args, **named)
        self.assertIs(type(caught.exception), error)
        self.assertEqual(vars(caught.exception), fields)
        for name in fields:
            self.assertIs(type(getattr(caught.exception, name)), type(fields[name]))

    def same(self, found, wanted):
        """Like assertEqual, but also the classes within must be the same."""
        self.assertEqual(found, wanted)
        self.assertEqual(repr(found), repr(wanted))


def ratio(fraction):
    """Return a Fraction as a Ratio."""
    return Ratio(fraction.numerator, fraction.denominator)


def fraction(number):
    """Return a Ratio as a Fraction."""
    return Fraction(number.top, number.bottom)


HELD = Range(0, 16)


def mute():
    """Return the program MUTE."""
    half, more = {"x": Move.dividing(2, HELD)}, {"x": Move.adding(8, HELD)}
    in_open = {
        "tick": [Rule("open", "open", moves=half)],
        "report": [Rule("mute", "mute", when=[("x", "from", 4)], moves=more), Rule("open", "open", moves=more)],
    }
    in_mute = {
        "tick": [Rule("open", "open", when=[("x", "below", 2)]), Rule("mute", "mute", moves=half)],
        "report": [Rule("mute", "mute", moves=more)],
    }
    return Program({"x": HELD}, {"open": in_open, "mute": in_mute})
