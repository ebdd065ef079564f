"""Ratios: exact numbers with a top and a bottom."""

from math import gcd

from fademodes.errors import DividedByZero, InvalidNumber
from fademodes.kinds import is_integer


def is_number(value):
    """Tell whether any value is a NUMBER: an INTEGER or a Ratio."""
    return isinstance(value, Ratio) or is_integer(value)


class Ratio:
    """A rational number in lowest terms, its bottom at least 1."""

    def __init__(self, top, bottom=1):
        if not is_integer(top):
            raise InvalidNumber(top)
        if not is_integer(bottom) or bottom == 0:
            raise InvalidNumber(bottom)
        # The sign goes along with what both parts are divided by.
        common = gcd(top, bottom) if bottom > 0 else -gcd(top, bottom)
        self._top = top // common
        self._bottom = bottom // common

    @classmethod
    def of(cls, number):
        """Return a NUMBER as a Ratio."""
        if isinstance(number, Ratio):
            return number
        return Ratio(number)

    @classmethod
    def least(cls, *numbers):
        """Return the least of one or more NUMBERs."""
        found = None
        for ratio in _ratios_of(numbers):
            if found is None or ratio.is_below(found):
                found = ratio
        return found

    @classmethod
    def greatest(cls, *numbers):
        """Return the greatest of one or more NUMBERs."""
        found = None
        for ratio in _ratios_of(numbers):
            if found is None or found.is_below(ratio):
                found = ratio
        return found

    @property
    def top(self):
        """The integer above the line."""
        return self._top

    @property
    def bottom(self):
        """The integer below the line, at least 1."""
        return self._bottom

    @property
    def sign(self):
        """Give -1, 0 or 1."""
        if self._top == 0:
            return 0
        return 1 if self._top > 0 else -1

    def is_below(self, other):
        """Tell whether this number is less than a NUMBER."""
        right = Ratio.of(other)
        return self._top * right._bottom < right._top * self._bottom

    def over(self, other):
        """Return this number divided by a NUMBER."""
        right = Ratio.of(other)
        if right._top == 0:
            raise DividedByZero()
        return Ratio(self._top * right._bottom, self._bottom * right._top)

    def __add__(self, other):
        right = Ratio.of(other)
        return Ratio(self._top * right._bottom + right._top * self._bottom, self._bottom * right._bottom)

    def __sub__(self, other):
        right = Ratio.of(other)
        return Ratio(self._top * right._bottom - right._top * self._bottom, self._bottom * right._bottom)

    def __mul__(self, other):
        right = Ratio.of(other)
        return Ratio(self._top * right._top, self._bottom * right._bottom)

    def __neg__(self):
        return Ratio(-self._top, self._bottom)

    def __eq__(self, other):
        return isinstance(other, Ratio) and self._top == other._top and self._bottom == other._bottom

    def __str__(self):
        if self._bottom == 1:
            return str(self._top)
        return f"{self._top}/{self._bottom}"

    def __repr__(self):
        return f"Ratio({self._top}, {self._bottom})"


def _ratios_of(numbers):
    if not numbers:
        raise InvalidNumber(None)
    return [Ratio.of(number) for number in numbers]
