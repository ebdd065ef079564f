"""Tests of fademodes.cuts: cuts [6], stretches [7], ranges [8]."""

import unittest

from examples import NO_NUMBERS, ODD_VALUES, Checks
from fademodes.cuts import Range, is_above, is_ahead, is_cut, is_stretch, is_within, mark_of
from fademodes.errors import InvalidCut, InvalidNumber, InvalidRange, InvalidStretch
from fademodes.ratios import Ratio

HALVES = [Ratio(top, 2) for top in range(-4, 9)]
CUTS = [(number, is_over) for number in HALVES for is_over in (False, True)]
NO_CUTS = ODD_VALUES + ((1,), (1, 0), (1, 1), (1, None), (True, False), ("1", False), (1, False, False), [1, False],
                        (False, 1), ((1, False), True), (Ratio(1), Ratio(0)))
NO_STRETCHES = NO_CUTS + ((1, False), ((1, True), (1, False)), ((1, False), (1, False)), ((2, False), (1, True)),
                          [(1, False), (2, False)], ((1, False), (2, 1)), ((1, False), [2, True]),
                          ((1, False), (2, True), (3, True)), ((1, False),), ((True, False), (2, True)))


class Cuts(Checks):
    def test_is_cut(self):
        for value in NO_CUTS:
            self.assertIs(is_cut(value), False)
        for value in ((0, False), (-3, True), (Ratio(1, 3), True), (10 ** 60, False)):
            self.assertIs(is_cut(value=value), True)

    def test_above_at_equal_numbers(self):
        for number in (5, Ratio(5)):
            for place in (5, Ratio(5)):
                self.assertIs(is_above(number, (place, False)), True)
                self.assertIs(is_above(number, (place, True)), False)

    def test_above(self):
        for number in HALVES:
            for place, is_over in CUTS:
                wanted = place.is_below(number) or (place == number and not is_over)
                self.assertIs(is_above(number, (place, is_over)), wanted)
        self.assertIs(is_above(cut=(4, True), number=5), True)
        self.assertIs(is_above(cut=(Ratio(11, 2), False), number=5), False)

    def test_above_refused(self):
        for value in NO_NUMBERS:
            self.refuses(InvalidNumber, {"value": value}, is_above, value, (1, False))
            self.refuses(InvalidNumber, {"value": value}, is_above, value, None)
        for value in NO_CUTS:
            self.refuses(InvalidCut, {"value": value}, is_above, 1, value)

    def test_ahead_goes_by_the_sequence(self):
        for one, cut in enumerate(CUTS):
            for two, other in enumerate(CUTS):
                self.assertIs(is_ahead(cut, other), one < two)

    def test_ahead_of_integers_and_ratios(self):
        for number in (3, Ratio(3)):
            for other in (3, Ratio(3)):
                self.assertIs(is_ahead((number, False), (other, True)), True)
                self.assertIs(is_ahead((number, True), (other, False)), False)
                self.assertIs(is_ahead((number, True), (other, True)), False)
                self.assertIs(is_ahead((number, False), (other, False)), False)
        self.assertIs(is_ahead(other=(4, False), one=(3, True)), True)

    def test_ahead_refused(self):
        for value in NO_CUTS:
            self.refuses(InvalidCut, {"value": value}, is_ahead, value, None)
            self.refuses(InvalidCut, {"value": value}, is_ahead, (1, True), value)


class Stretches(Checks):
    def test_is_stretch(self):
        for value in NO_STRETCHES:
            self.assertIs(is_stretch(value), False)
        for one, cut in enumerate(CUTS):
            for two, other in enumerate(CUTS):
                self.assertIs(is_stretch((cut, other)), one < two)
        self.assertIs(is_stretch(value=((3, False), (Ratio(3), True))), True)

    def test_within(self):
        for one, cut in enumerate(CUTS):
            for other in CUTS[one + 1:]:
                for number in HALVES:
                    wanted = is_above(number, cut) and not is_above(number, other)
                    self.assertIs(is_within(number, (cut, other)), wanted)
        self.assertIs(is_within(stretch=((3, True), (4, True)), number=4), True)

    def test_within_refused(self):
        for value in NO_NUMBERS:
            self.refuses(InvalidNumber, {"value": value}, is_within, value, None)
        for value in NO_STRETCHES:
            self.refuses(InvalidStretch, {"value": value}, is_within, 1, value)

    def test_mark(self):
        self.same(mark_of(((3, False), (5, True))), Ratio(3))
        self.same(mark_of(((3, False), (3, True))), Ratio(3))
        self.same(mark_of(((Ratio(7, 2), False), (5, False))), Ratio(7, 2))
        self.same(mark_of(stretch=((3, True), (5, True))), Ratio(5))
        self.same(mark_of(((3, True), (6, False))), Ratio(9, 2))
        self.same(mark_of(((Ratio(-1, 3), True), (0, False))), Ratio(-1, 6))

    def test_mark_is_in_the_stretch(self):
        for one, cut in enumerate(CUTS):
            for other in CUTS[one + 1:]:
                self.assertTrue(is_within(mark_of((cut, other)), (cut, other)))

    def test_mark_refused(self):
        for value in NO_STRETCHES:
            self.refuses(InvalidStretch, {"value": value}, mark_of, value)


class Ranges(Checks):
    def test_parts(self):
        held = Range(high=Ratio(7, 2), low=-1)
        self.same((held.low, held.high), (Ratio(-1), Ratio(7, 2)))
        self.same(held.outer(), ((Ratio(-1), False), (Ratio(7, 2), True)))
        self.same(Range(3, 3).outer(), ((Ratio(3), False), (Ratio(3), True)))

    def test_refused(self):
        for value in NO_NUMBERS:
            self.refuses(InvalidNumber, {"value": value}, Range, value, None)
            self.refuses(InvalidNumber, {"value": value}, Range, 1, value)
        self.refuses(InvalidRange, {"value": (4, 3)}, Range, 4, 3)
        with self.assertRaises(InvalidRange) as caught:
            Range(4, Ratio(6, 2))
        self.same(caught.exception.value, (4, Ratio(3)))

    def test_inner_and_fit_just_at_the_ends(self):
        for low, high in ((Ratio(0), Ratio(2)), (Ratio(-1, 2), Ratio(3, 2)), (Ratio(1), Ratio(1))):
            held = Range(low, high)
            first, second = held.outer()
            for cut in CUTS:
                inner = is_ahead(first, cut) and is_ahead(cut, second)
                self.assertIs(held.is_inner(cut), inner)
                wanted = cut if inner else second if is_ahead(first, cut) else first
                self.same(held.fit(cut), wanted)

    def test_fit_gives_ratios(self):
        held = Range(0, 4)
        self.same(held.fit((0, False)), (Ratio(0), False))
        self.same(held.fit((0, True)), (Ratio(0), True))
        self.same(held.fit((4, False)), (Ratio(4), False))
        self.same(held.fit(cut=(4, True)), (Ratio(4), True))
        self.same([held.fit((-9, True)), held.fit((9, False))], [(Ratio(0), False), (Ratio(4), True)])
        self.same([held.is_inner(cut=(0, True)), held.is_inner((0, False))], [True, False])
        self.same([held.is_inner((4, False)), held.is_inner((4, True))], [True, False])

    def test_a_single_number_has_no_inner_cut(self):
        held = Range(4, 4)
        self.same([held.is_inner((4, False)), held.is_inner((4, True))], [False, False])
        self.same([held.fit((4, False)), held.fit((4, True))], [(Ratio(4), False), (Ratio(4), True)])

    def test_cuts_refused(self):
        for value in NO_CUTS:
            self.refuses(InvalidCut, {"value": value}, Range(0, 4).is_inner, value)
            self.refuses(InvalidCut, {"value": value}, Range(0, 4).fit, value)

    def test_has_stretch(self):
        held = Range(0, 2)
        first, second = held.outer()
        for value in NO_STRETCHES:
            self.assertIs(held.has_stretch(value), False)
        for one, cut in enumerate(CUTS):
            for other in CUTS[one + 1:]:
                wanted = not is_ahead(cut, first) and not is_ahead(second, other)
                self.assertIs(held.has_stretch((cut, other)), wanted)
        self.assertIs(held.has_stretch(value=((0, False), (2, True))), True)

    def test_contains(self):
        held = Range(Ratio(1, 2), 3)
        for value in (1, 3, Ratio(1, 2), Ratio(3), Ratio(5, 2)):
            self.assertIs(value in held, True)
        for value in (0, 4, Ratio(1, 3), Ratio(301, 100), -3) + NO_NUMBERS:
            self.assertIs(value in held, False)
        self.assertTrue(4 in Range(4, 4))

    def test_equality_and_repr(self):
        self.assertEqual(Range(0, 4), Range(Ratio(0), Ratio(8, 2)))
        self.assertFalse(Range(0, 4) != Range(0, 4))
        for value in (Range(0, 3), Range(1, 4), (0, 4), None, "Range(0, 4)", ((0, False), (4, True))):
            self.assertFalse(Range(0, 4) == value)
            self.assertTrue(Range(0, 4) != value)
        self.assertEqual(repr(Range(Ratio(-1, 2), 4)), "Range(Ratio(-1, 2), Ratio(4, 1))")

    def test_does_not_change(self):
        for name in ("low", "high"):
            with self.assertRaises(AttributeError):
                setattr(Range(0, 4), name, 3)


if __name__ == "__main__":
    unittest.main()
