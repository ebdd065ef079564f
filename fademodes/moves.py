"""Moves: numbers are raised, divided and held, and their order never turns round."""

from fademodes.cuts import Range, is_ahead, precedes, ratio_cut
from fademodes.errors import InvalidCount, InvalidMove, InvalidNumber, InvalidRange, TooMany
from fademodes.kinds import is_integer
from fademodes.ratios import Ratio, is_number

MOST_TIMES = 100


class Move:
    """A move takes x to (x + plus) / divisor, held between low and high."""

    def __init__(self, divisor, plus, low, high):
        _check_divisor(divisor)
        _check_part("plus", plus)
        _check_part("low", low)
        _check_part("high", high)
        self._divisor = divisor
        self._plus = Ratio.of(plus)
        self._low = Ratio.of(low)
        self._high = Ratio.of(high)
        if self._high.is_below(self._low):
            raise InvalidMove("high")

    @classmethod
    def setting(cls, number):
        """Return the move that takes all numbers to one."""
        ratio = Ratio.of(number)
        return cls(1, 0, ratio, ratio)

    @classmethod
    def staying(cls, within):
        """Return the move that leaves all numbers of a Range as they are."""
        _check_range(within)
        return cls(1, 0, within.low, within.high)

    @classmethod
    def adding(cls, number, within):
        """Return the move that adds a number, held within a Range."""
        if not is_number(number):
            raise InvalidNumber(number)
        _check_range(within)
        return cls(1, number, within.low, within.high)

    @classmethod
    def dividing(cls, divisor, within):
        """Return the move that divides, held within a Range."""
        _check_divisor(divisor)
        _check_range(within)
        return cls(divisor, 0, within.low, within.high)

    @property
    def divisor(self):
        """The integer by which is divided."""
        return self._divisor

    @property
    def plus(self):
        """The number that is added ahead of the division."""
        return self._plus

    @property
    def low(self):
        """The least result."""
        return self._low

    @property
    def high(self):
        """The greatest result."""
        return self._high

    def at(self, number):
        """Return what the move takes a number to."""
        return self._held(self._free(number))

    def _free(self, number):
        """Return what a number would be taken to if nothing were held."""
        return (Ratio.of(number) + self._plus).over(self._divisor)

    def then(self, other):
        """Return this move and then the other one, as one move."""
        _check_other(other)
        plus = self._plus + other._plus * self._divisor
        return Move(self._divisor * other._divisor, plus, other.at(self._low), other.at(self._high))

    def back(self, cut, within):
        """Return a cut led back by the move over a Range."""
        ratio = ratio_cut(cut)
        _check_range(within)
        return WayBack(self, within).led(ratio)

    def upper_image(self, cut):
        """Return what the move makes of an upper end."""
        place, is_met = ratio_cut(cut)
        free = self._free(place)
        is_flat_below = self._high.is_below(free) or not self._low.is_below(free)
        return self._held(free), is_met or is_flat_below

    def lower_image(self, cut):
        """Return what the move makes of a lower end."""
        place, is_open = ratio_cut(cut)
        free = self._free(place)
        is_flat_above = free.is_below(self._low) or not free.is_below(self._high)
        return self._held(free), is_open and not is_flat_above

    def form(self, within):
        """Return the tuple that tells what the move does over a Range."""
        _check_range(within)
        low, high = self.at(within.low), self.at(within.high)
        if low == high:
            return None, None, low, low
        return self._divisor, self._plus, low, high

    def is_alike(self, other, within):
        """Tell whether both moves take all numbers of a Range to the same results."""
        _check_other(other)
        return self.form(within) == other.form(within)

    def done(self, times):
        """Return this move done so many times, as one move."""
        if not is_integer(times) or times < 1:
            raise InvalidCount(times)
        if self._divisor == 1:
            return self._raised(times)
        if times > MOST_TIMES:
            raise TooMany("times", MOST_TIMES)
        move = self
        for _ in range(times - 1):
            move = move.then(self)
        return move

    def _raised(self, times):
        """Return the move with divisor 1 done so many times.

        The times can be far too many to be done one by one.
        """
        rest = self._plus * (times - 1)
        return Move(1, self._plus * times, self._held(self._low + rest), self._held(self._high + rest))

    def _held(self, ratio):
        """Return the number between low and high that is next to this one."""
        if ratio.is_below(self._low):
            return self._low
        return self._high if self._high.is_below(ratio) else ratio

    def tends(self, number):
        """Return the limit of a number, and the turns behind which it is reached, or None."""
        ratio = Ratio.of(number)
        limit = self._limit_of(ratio)
        if ratio == limit:
            return limit, 0
        result = self.at(ratio)
        if result == limit:
            return limit, 1
        if self._divisor == 1:
            # Here the result is raised or lowered by the same number each turn.
            return limit, 1 + _whole_turns((limit - result).over(self._plus))
        return limit, self._turns_from(result, limit)

    def _limit_of(self, ratio):
        if self._divisor > 1:
            return self._held(self._fixed())
        if self._plus.sign == 0:
            return self._held(ratio)
        return self._high if self._plus.sign > 0 else self._low

    def _fixed(self):
        """Return the number that would stay if nothing were held."""
        return self._plus.over(self._divisor - 1)

    def _turns_from(self, result, limit):
        """Return the turns until a first result is held at the limit, or None.

        The distance to the fixed number is divided each turn, so what is held at a
        limit beside the fixed number is held there at last, and no other number is.
        """
        fixed = self._fixed()
        if fixed == limit:
            return None
        turns = 1
        share = (result - fixed).over(limit - fixed)
        while Ratio.of(1).is_below(share):
            share = share.over(self._divisor)
            turns += 1
        return turns

    def upper_limit(self, cut):
        """Return the limit of an upper end."""
        end = ratio_cut(cut)
        if not is_ahead(end, self.upper_image(end)):
            return end
        if self._divisor == 1:
            return (self._high if self._plus.sign > 0 else self._low), True
        fixed = self._fixed()
        if not self._low.is_below(fixed):
            return self._low, True
        if self._high.is_below(fixed):
            return self._high, True
        return fixed, False

    def lower_limit(self, cut):
        """Return the limit of a lower end."""
        end = ratio_cut(cut)
        if not is_ahead(self.lower_image(end), end):
            return end
        if self._divisor == 1:
            return (self._low if self._plus.sign < 0 else self._high), False
        fixed = self._fixed()
        if not fixed.is_below(self._high):
            return self._high, False
        if fixed.is_below(self._low):
            return self._low, False
        return fixed, True

    def __eq__(self, other):
        if not isinstance(other, Move):
            return False
        if self._divisor != other._divisor or self._plus != other._plus:
            return False
        return self._low == other._low and self._high == other._high


class WayBack:
    """A move over a range, made ready to lead many cuts back."""

    def __init__(self, move, within):
        self._move = move
        self._first, self._second = within.outer()
        self._lowest = move.at(within.low), False
        self._highest = move.at(within.high), False

    def led(self, cut):
        """Return a cut with a Ratio led back, fitted."""
        if not precedes(self._lowest, cut):
            return self._first
        if precedes(self._highest, cut):
            return self._second
        led = cut[0] * self._move.divisor - self._move.plus, cut[1]
        if not precedes(self._first, led):
            return self._first
        return led if precedes(led, self._second) else self._second

    def led_inside(self, cut):
        """Return a cut with a Ratio led back, or None if that is not inner."""
        led = self.led(cut)
        return led if precedes(self._first, led) and precedes(led, self._second) else None


def move_key(move):
    """Return what tells a move by its parts, fit for a key of a dict."""
    return move.divisor, str(move.plus), str(move.low), str(move.high)


def _whole_turns(ratio):
    """Return the least integer that is not below a number."""
    return -(-ratio.top // ratio.bottom)


def _check_divisor(value):
    if not is_integer(value) or value < 1:
        raise InvalidMove("divisor")


def _check_part(name, value):
    if not is_number(value):
        raise InvalidMove(name)


def _check_range(value):
    if not isinstance(value, Range):
        raise InvalidRange(value)


def _check_other(value):
    if not isinstance(value, Move):
        raise InvalidMove("other")
