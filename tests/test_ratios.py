"""Tests of fademodes.ratios [5], with the text of a number [37]."""

import unittest
from fractions import Fraction

from examples import NO_NUMBERS, Checks, fraction, ratio
from fademodes.errors import DividedByZero, InvalidNumber
from fademodes.ratios import Ratio, is_number

GREAT = 10 ** 59 + 7
NUMBERS = sorted({Fraction(top, bottom) for top in range(-7, 8) for bottom in range(1, 7)})


class Making(Checks):
    def test_lowest_terms(self):
        for top in range(-12, 13):
            for bottom in list(range(-12, 0)) + list(range(1, 13)):
                made, wanted = Ratio(top, bottom), Fraction(top, bottom)
                self.same((made.top, made.bottom), (wanted.numerator, wanted.denominator))

    def test_one_parameter_and_names(self):
        self.same((Ratio(6).top, Ratio(6).bottom), (6, 1))
        self.same(Ratio(bottom=-4, top=6), Ratio(-3, 2))
        self.same((Ratio(0, -5).top, Ratio(0, -5).bottom), (0, 1))

    def test_great_numbers(self):
        made = Ratio(GREAT * 6, -(10 ** 58) * 6)
        self.same((made.top, made.bottom), (-GREAT, 10 ** 58))
        total = Ratio(GREAT, 10 ** 58) + Ratio(1, GREAT)
        self.assertEqual(fraction(total), Fraction(GREAT, 10 ** 58) + Fraction(1, GREAT))

    def test_sign(self):
        self.same([Ratio(-3, 7).sign, Ratio(0).sign, Ratio(3, 7).sign, Ratio(3, -7).sign], [-1, 0, 1, -1])

    def test_refused(self):
        for value in NO_NUMBERS + (Ratio(2),):
            self.refuses(InvalidNumber, {"value": value}, Ratio, value)
            self.refuses(InvalidNumber, {"value": value}, Ratio, value, 0)
            self.refuses(InvalidNumber, {"value": value}, Ratio, 1, value)
        self.refuses(InvalidNumber, {"value": 0}, Ratio, 1, 0)
        self.refuses(InvalidNumber, {"value": False}, Ratio, 1, False)
        self.refuses(InvalidNumber, {"value": True}, Ratio, True, None)

    def test_does_not_change(self):
        for name in ("top", "bottom", "sign"):
            with self.assertRaises(AttributeError):
                setattr(Ratio(1, 2), name, 3)

    def test_is_number(self):
        for value in NO_NUMBERS:
            self.assertIs(is_number(value), False)
        for value in (0, -1, 10 ** 60, Ratio(1, 2), Ratio(0)):
            self.assertIs(is_number(value=value), True)


class Reckoning(Checks):
    def test_signs_with_ratios_and_integers(self):
        for left in NUMBERS:
            for right in NUMBERS:
                one, other = ratio(left), ratio(right)
                self.same(one + other, ratio(left + right))
                self.same(one - other, ratio(left - right))
                self.same(one * other, ratio(left * right))
                self.assertIs(one.is_below(other), left < right)
                if right:
                    self.same(one.over(other), ratio(left / right))
                if right.denominator == 1:
                    self.same(one + int(right), ratio(left + right))
                    self.same(one - int(right), ratio(left - right))
                    self.same(one * int(right), ratio(left * right))
                    self.assertIs(one.is_below(other=int(right)), left < right)
            self.same(-ratio(left), ratio(-left))

    def test_over(self):
        self.same(Ratio(3, 4).over(-6), Ratio(-1, 8))
        self.same(Ratio(0).over(other=Ratio(-6, 5)), Ratio(0))
        for zero in (0, Ratio(0), Ratio(0, -3)):
            self.refuses(DividedByZero, {}, Ratio(3).over, zero)
            self.refuses(DividedByZero, {}, Ratio(0).over, zero)

    def test_what_is_no_number_on_the_right(self):
        number = Ratio(3, 4)
        calls = (lambda value: number + value, lambda value: number - value, lambda value: number * value,
                 number.is_below, number.over, Ratio.of)
        for value in NO_NUMBERS:
            for call in calls:
                self.refuses(InvalidNumber, {"value": value}, call, value)

    def test_only_a_ratio_on_the_left(self):
        for call in (lambda: 1 + Ratio(1), lambda: 1 - Ratio(1), lambda: 1 * Ratio(1)):
            self.assertRaises(TypeError, call)

    def test_of(self):
        self.same(Ratio.of(-5), Ratio(-5, 1))
        self.same(Ratio.of(number=Ratio(5, 3)), Ratio(5, 3))

    def test_least_and_greatest(self):
        self.same(Ratio.least(3, Ratio(5, 2), 4), Ratio(5, 2))
        self.same(Ratio.greatest(3, Ratio(5, 2), 4, Ratio(-9)), Ratio(4))
        self.same([Ratio.least(7), Ratio.greatest(-7)], [Ratio(7), Ratio(-7)])
        self.same(Ratio.least(*[ratio(number) for number in reversed(NUMBERS)]), ratio(NUMBERS[0]))
        self.same(Ratio.greatest(*[ratio(number) for number in NUMBERS]), ratio(NUMBERS[-1]))

    def test_least_and_greatest_refused(self):
        for call in (Ratio.least, Ratio.greatest):
            self.refuses(InvalidNumber, {"value": None}, call)
            self.refuses(InvalidNumber, {"value": True}, call, 1, True, "x")
            self.refuses(InvalidNumber, {"value": "x"}, call, "x", 1)


class Showing(Checks):
    def test_texts(self):
        self.assertEqual([str(Ratio(6, 4)), str(Ratio(-6, 4)), str(Ratio(8, 4)), str(Ratio(0, 9)), str(Ratio(-3))],
                         ["3/2", "-3/2", "2", "0", "-3"])
        self.assertEqual(repr([Ratio(6, -4), Ratio(2)]), "[Ratio(-3, 2), Ratio(2, 1)]")
        self.assertEqual(str(Ratio(GREAT, 3)), f"{GREAT}/3")

    def test_equality(self):
        self.assertTrue(Ratio(2, 4) == Ratio(1, 2))
        self.assertFalse(Ratio(2, 4) != Ratio(1, 2))
        self.assertNotEqual(Ratio(1, 2), Ratio(-1, 2))
        self.assertNotEqual(Ratio(1, 2), Ratio(1, 3))
        for value in (1, True, "1", None, Fraction(1), (1, 1)):
            self.assertFalse(Ratio(1) == value)
            self.assertTrue(Ratio(1) != value)


if __name__ == "__main__":
    unittest.main()
