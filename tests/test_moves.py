"""Tests of fademodes.moves: points 9, 10 and 24.

Much is compared with what the words of the document say, reckoned with Fractions:
numbers just below and just above are taken so near that nothing lies between.
"""

import unittest
from fractions import Fraction

from examples import NO_NUMBERS, ODD_VALUES, Checks, fraction, ratio
from fademodes.cuts import Range, is_above, is_ahead
from fademodes.errors import InvalidCount, InvalidCut, InvalidMove, InvalidNumber, InvalidRange, TooMany
from fademodes.moves import Move
from fademodes.ratios import Ratio
from test_cuts import NO_CUTS

NO_RANGES = tuple(value for value in ODD_VALUES if not isinstance(value, Range)) + ((0, 16), Move(1, 0, 0, 1))
NO_MOVES = ODD_VALUES + ((1, 0, 0, 16), "other", 1)
NEAR = Fraction(1, 10 ** 9)
HALVES = [Fraction(top, 2) for top in range(-5, 10)]
CUTS = [(ratio(number), is_over) for number in HALVES for is_over in (False, True)]
SOME = [Move(divisor, ratio(plus), low, high)
        for divisor in (1, 2, 3)
        for plus in [Fraction(top, 2) for top in (-9, -4, -1, 0, 1, 2, 3, 8, 11)]
        for low, high in ((0, 4), (-1, 1), (1, 1), (0, 3))]


def parts(move):
    return move.divisor, move.plus, move.low, move.high


def result(move, number):
    """Return the result of a move as the document says it, with Fractions."""
    free = (number + fraction(move.plus)) / move.divisor
    return min(max(free, fraction(move.low)), fraction(move.high))


def upper_result(move, cut):
    """Return the upper end of the results of numbers with this upper end."""
    number, is_met = fraction(cut[0]), cut[1]
    found = result(move, number)
    return ratio(found), is_met or result(move, number - NEAR) == found


def lower_result(move, cut):
    number, is_open = fraction(cut[0]), cut[1]
    found = result(move, number)
    return ratio(found), is_open and result(move, number + NEAR) != found


class Making(Checks):
    def test_parts(self):
        self.same(parts(Move(2, 8, 0, 16)), (2, Ratio(8), Ratio(0), Ratio(16)))
        self.same(parts(Move(high=Ratio(9, 6), low=-1, plus=Ratio(-2, 4), divisor=1)),
                  (1, Ratio(-1, 2), Ratio(-1), Ratio(3, 2)))
        self.same(parts(Move(1, 0, 3, 3)), (1, Ratio(0), Ratio(3), Ratio(3)))

    def test_refused(self):
        for value in ODD_VALUES + (0, -1, Ratio(2)):
            self.refuses(InvalidMove, {"part": "divisor"}, Move, value, None, None, None)
        for value in NO_NUMBERS:
            self.refuses(InvalidMove, {"part": "plus"}, Move, 1, value, None, None)
            self.refuses(InvalidMove, {"part": "low"}, Move, 1, 0, value, None)
            self.refuses(InvalidMove, {"part": "high"}, Move, 1, 0, 0, value)
        self.refuses(InvalidMove, {"part": "high"}, Move, 1, 0, 1, 0)
        self.refuses(InvalidMove, {"part": "high"}, Move, 1, 0, Ratio(1, 2), Ratio(1, 3))

    def test_class_methods(self):
        held = Range(Ratio(-1, 2), 16)
        self.same(parts(Move.setting(Ratio(7, 2))), (1, Ratio(0), Ratio(7, 2), Ratio(7, 2)))
        self.same(parts(Move.setting(number=-3)), (1, Ratio(0), Ratio(-3), Ratio(-3)))
        self.same(parts(Move.staying(within=held)), (1, Ratio(0), Ratio(-1, 2), Ratio(16)))
        self.same(parts(Move.adding(within=held, number=8)), (1, Ratio(8), Ratio(-1, 2), Ratio(16)))
        self.same(parts(Move.adding(Ratio(-1, 3), held)), (1, Ratio(-1, 3), Ratio(-1, 2), Ratio(16)))
        self.same(parts(Move.dividing(within=held, divisor=3)), (3, Ratio(0), Ratio(-1, 2), Ratio(16)))

    def test_class_methods_refuse(self):
        for value in NO_NUMBERS:
            self.refuses(InvalidNumber, {"value": value}, Move.setting, value)
            self.refuses(InvalidNumber, {"value": value}, Move.adding, value, None)
        for value in ODD_VALUES + (0, -2, Ratio(2)):
            self.refuses(InvalidMove, {"part": "divisor"}, Move.dividing, value, None)
        for value in NO_RANGES:
            self.refuses(InvalidRange, {"value": value}, Move.staying, value)
            self.refuses(InvalidRange, {"value": value}, Move.adding, 1, value)
            self.refuses(InvalidRange, {"value": value}, Move.dividing, 1, value)

    def test_does_not_change(self):
        for name in ("divisor", "plus", "low", "high"):
            with self.assertRaises(AttributeError):
                setattr(Move(1, 0, 0, 1), name, 1)

    def test_equality(self):
        self.assertEqual(Move(2, 1, 0, 4), Move(2, Ratio(1), Ratio(0), Ratio(8, 2)))
        self.assertFalse(Move(2, 1, 0, 4) != Move(2, 1, 0, 4))
        for other in (Move(3, 1, 0, 4), Move(2, 2, 0, 4), Move(2, 1, 1, 4), Move(2, 1, 0, 5), (2, 1, 0, 4), None):
            self.assertFalse(Move(2, 1, 0, 4) == other)
            self.assertTrue(Move(2, 1, 0, 4) != other)


class Results(Checks):
    def test_example_of_the_document(self):
        halved = Move(2, 8, 0, 16)
        self.assertEqual(repr([str(halved.at(3)), halved.tends(0), halved.tends(40)]),
                         "['11/2', (Ratio(8, 1), None), (Ratio(8, 1), None)]")
        self.assertEqual(repr([halved.back((6, False), Range(0, 16)), halved.back((16, True), Range(0, 16))]),
                         "[(Ratio(4, 1), False), (Ratio(16, 1), True)]")

    def test_where_a_move_begins_to_be_held(self):
        move = Move(2, 1, 1, 3)
        wanted = ((1, 1), (Ratio(9, 10), 1), (Ratio(11, 10), Ratio(21, 20)), (5, 3), (Ratio(49, 10), Ratio(59, 20)),
                  (Ratio(51, 10), 3), (-100, 1), (100, 3), (Ratio(1, 3), 1), (Ratio(7, 3), Ratio(5, 3)))
        for number, found in wanted:
            self.same(move.at(number), Ratio.of(found))
        self.same(move.at(number=2), Ratio(3, 2))

    def test_divisors(self):
        for divisor in range(1, 100):
            move = Move.dividing(divisor, Range(0, 1000))
            self.same(move.at(777), Ratio(777, divisor))
            self.same(Move(divisor, Ratio(1, 3), 0, 1000).at(Ratio(1, 7)), Ratio(10, 21 * divisor))

    def test_at_as_the_document_says(self):
        for move in SOME:
            for number in HALVES:
                self.same(move.at(ratio(number)), ratio(result(move, number)))

    def test_then(self):
        self.same(parts(Move(2, 3, 0, 8).then(other=Move(3, 5, 1, 4))), (6, Ratio(13), Ratio(5, 3), Ratio(4)))
        for move in SOME:
            for other in SOME[::5]:
                both = move.then(other)
                wanted = move.plus + other.plus * move.divisor
                self.same(parts(both), (move.divisor * other.divisor, wanted, other.at(move.low), other.at(move.high)))
                for number in HALVES[::2]:
                    self.same(both.at(ratio(number)), other.at(move.at(ratio(number))))

    def test_refused(self):
        move = Move(2, 8, 0, 16)
        for value in NO_NUMBERS:
            self.refuses(InvalidNumber, {"value": value}, move.at, value)
            self.refuses(InvalidNumber, {"value": value}, move.tends, value)
        for value in NO_MOVES:
            self.refuses(InvalidMove, {"part": "other"}, move.then, value)
            self.refuses(InvalidMove, {"part": "other"}, move.is_alike, value, None)
        for value in NO_RANGES:
            self.refuses(InvalidRange, {"value": value}, move.form, value)
            self.refuses(InvalidRange, {"value": value}, move.is_alike, move, value)
            self.refuses(InvalidRange, {"value": value}, move.back, (1, True), value)
        for value in NO_CUTS:
            self.refuses(InvalidCut, {"value": value}, move.back, value, None)
            for call in (move.upper_image, move.lower_image, move.upper_limit, move.lower_limit):
                self.refuses(InvalidCut, {"value": value}, call, value)


class Forms(Checks):
    def test_form(self):
        self.same(Move(2, 8, 0, 16).form(Range(0, 16)), (2, Ratio(8), Ratio(4), Ratio(12)))
        self.same(Move(2, 8, 5, 10).form(within=Range(0, 16)), (2, Ratio(8), Ratio(5), Ratio(10)))
        self.same(Move(2, 8, 0, 4).form(Range(0, 16)), (None, None, Ratio(4), Ratio(4)))
        self.same(Move(1, 9, 0, 20).form(Range(3, 3)), (None, None, Ratio(12), Ratio(12)))
        self.same(Move.setting(Ratio(1, 2)).form(Range(0, 1)), (None, None, Ratio(1, 2), Ratio(1, 2)))

    def test_alike(self):
        held = Range(0, 16)
        self.assertIs(Move(2, 8, 0, 16).is_alike(Move(2, 8, 4, 12), held), True)
        self.assertIs(Move(2, 8, 0, 16).is_alike(Move(2, 8, 4, 11), held), False)
        self.assertIs(Move(2, 8, 0, 4).is_alike(within=held, other=Move(7, 99, 0, 4)), True)
        self.assertIs(Move(2, 8, 0, 4).is_alike(Move.setting(5), held), False)
        self.assertIs(Move(1, 1, 0, 16).is_alike(Move(2, 1, 0, 16), Range(-1, -1)), True)

    def test_alike_exactly_if_all_results_are_equal(self):
        held = Range(-1, 3)
        numbers = [ratio(Fraction(top, 12)) for top in range(-12, 37)]
        rows = [(move, [str(move.at(number)) for number in numbers]) for move in SOME]
        for move, results in rows:
            for other, other_results in rows:
                self.assertIs(move.is_alike(other, held), results == other_results)


class Back(Checks):
    def test_back(self):
        held = Range(0, 16)
        halved = Move(2, 0, 0, 16)
        self.same(halved.back((4, False), held), (Ratio(8), False))
        self.same(halved.back((4, True), held), (Ratio(8), True))
        self.same(halved.back((8, False), held), (Ratio(16), False))
        self.same(halved.back((8, True), held), (Ratio(16), True))
        self.same(halved.back((0, False), held), (Ratio(0), False))
        self.same(halved.back(within=held, cut=(0, True)), (Ratio(0), True))
        self.same(Move(1, 8, 0, 16).back((16, False), held), (Ratio(8), False))
        self.same(Move(1, 8, 0, 16).back((8, False), held), (Ratio(0), False))
        self.same(Move.setting(5).back((5, False), held), (Ratio(0), False))
        self.same(Move.setting(5).back((5, True), held), (Ratio(16), True))

    def test_back_as_the_document_says(self):
        for low, high in ((0, 4), (-1, 2), (2, 2)):
            held = Range(low, high)
            numbers = [ratio(Fraction(top, 4)) for top in range(low * 4, high * 4 + 1)]
            numbers = numbers + [number + Ratio(1, 999) for number in numbers[:-1]]
            for move in SOME:
                for cut in CUTS:
                    found = move.back(cut, held)
                    self.assertTrue(held.is_inner(found) or found in held.outer())
                    for number in numbers:
                        self.assertIs(is_above(number, found), is_above(move.at(number), cut))


class Done(Checks):
    def test_done_as_often_then(self):
        for move in SOME:
            both = move
            for times in range(1, 7):
                self.assertEqual(move.done(times), both)
                both = both.then(move)

    def test_hundred_times(self):
        move = Move(2, 8, 0, 16)
        both = move
        for _ in range(99):
            both = both.then(move)
        self.assertEqual(move.done(times=100), both)
        self.refuses(TooMany, {"kind": "times", "limit": 100}, move.done, 101)
        self.refuses(TooMany, {"kind": "times", "limit": 100}, move.done, 10 ** 30)
        self.assertEqual(move.done(1), move)

    def test_divisor_one_many_times(self):
        for plus in (Ratio(1, 7), Ratio(0), Ratio(-3, 7)):
            move = Move(1, plus, Ratio(-5, 2), 9)
            both = move
            for _ in range(100):
                both = both.then(move)
            self.assertEqual(move.done(101), both)
        self.same(parts(Move(1, Ratio(1, 3), 0, 9).done(10 ** 30)), (1, Ratio(10 ** 30, 3), Ratio(9), Ratio(9)))
        self.same(parts(Move(1, -2, 0, 9).done(10 ** 30)), (1, Ratio(-2 * 10 ** 30), Ratio(0), Ratio(0)))
        self.same(parts(Move(1, 0, 0, 9).done(10 ** 30)), (1, Ratio(0), Ratio(0), Ratio(9)))

    def test_refused(self):
        for divisor in (1, 2):
            for value in ODD_VALUES + (0, -1, Ratio(3)):
                self.refuses(InvalidCount, {"value": value}, Move(divisor, 1, 0, 4).done, value)


class Ends(Checks):
    def test_images_of_ends_that_are_met_or_approached(self):
        move = Move(2, 0, 1, 4)
        uppers = (((6, True), (3, True)), ((6, False), (3, False)), ((8, False), (4, False)), ((9, False), (4, True)),
                  ((8, True), (4, True)), ((2, False), (1, True)), ((1, False), (1, True)), ((3, False), (Ratio(3, 2), False)))
        for cut, wanted in uppers:
            self.same(move.upper_image(cut), (Ratio.of(wanted[0]), wanted[1]))
        lowers = (((6, False), (3, False)), ((6, True), (3, True)), ((2, True), (1, True)), ((1, True), (1, False)),
                  ((2, False), (1, False)), ((8, True), (4, False)), ((9, True), (4, False)), ((7, True), (Ratio(7, 2), True)))
        for cut, wanted in lowers:
            self.same(move.lower_image(cut), (Ratio.of(wanted[0]), wanted[1]))
        self.same(Move.setting(3).upper_image(cut=(3, False)), (Ratio(3), True))
        self.same(Move.setting(3).lower_image(cut=(3, True)), (Ratio(3), False))

    def test_images_as_the_document_says(self):
        for move in SOME:
            for cut in CUTS:
                self.same(move.upper_image(cut), upper_result(move, cut))
                self.same(move.lower_image(cut), lower_result(move, cut))

    def test_upper_limits(self):
        wanted = (
            (Move(1, 1, 0, 9), (3, False), (9, True)), (Move(1, -1, 2, 9), (1, False), (2, True)),
            (Move(1, -1, 0, 9), (3, False), (3, False)), (Move(1, 0, 0, 9), (3, False), (3, False)),
            (Move(2, 0, 2, 9), (1, True), (2, True)), (Move(2, 2, 2, 9), (2, False), (2, True)),
            (Move(2, 30, 0, 9), (3, True), (9, True)), (Move(2, 9, 0, 9), (3, True), (9, False)),
            (Move(2, 8, 0, 9), (3, True), (8, False)), (Move(2, 8, 0, 9), (8, True), (8, True)),
            (Move(2, 8, 0, 9), (8, False), (8, False)), (Move(2, 8, 0, 9), (9, False), (9, False)),
            (Move(3, 5, 0, 9), (Ratio(1, 3), False), (Ratio(5, 2), False)),
        )
        for move, cut, limit in wanted:
            self.same(move.upper_limit(cut), (Ratio.of(limit[0]), limit[1]))
        self.same(Move(1, 1, 0, 9).upper_limit(cut=(3, True)), (Ratio(9), True))

    def test_lower_limits(self):
        wanted = (
            (Move(1, -1, 0, 9), (3, True), (0, False)), (Move(1, 1, 0, 9), (11, True), (9, False)),
            (Move(1, 1, 0, 9), (3, True), (3, True)), (Move(1, 0, 0, 9), (3, False), (3, False)),
            (Move(2, 30, 0, 9), (11, False), (9, False)), (Move(2, 9, 0, 9), (9, True), (9, False)),
            (Move(2, -3, 0, 9), (3, False), (0, False)), (Move(2, 0, 0, 9), (3, False), (0, True)),
            (Move(2, 2, 0, 9), (3, False), (2, True)), (Move(2, 2, 0, 9), (2, False), (2, False)),
            (Move(2, 2, 0, 9), (2, True), (2, True)), (Move(2, 2, 0, 9), (1, True), (1, True)),
        )
        for move, cut, limit in wanted:
            self.same(move.lower_limit(cut), (Ratio.of(limit[0]), limit[1]))
        self.same(Move(1, -1, 0, 9).lower_limit(cut=(3, False)), (Ratio(0), False))

    def test_limits_are_not_passed_and_come_near(self):
        for move in SOME:
            for cut in CUTS:
                upper, lower = move.upper_limit(cut), move.lower_limit(cut)
                high, low = cut, cut
                for _ in range(40):
                    self.assertFalse(is_ahead(upper, high))
                    self.assertFalse(is_ahead(low, lower))
                    high, low = move.upper_image(high), move.lower_image(low)
                self.check_near(upper, [cut, high], upper[1])
                self.check_near(lower, [cut, low], not lower[1])

    def check_near(self, limit, ends, is_met):
        """What is met is one of the ends, what is not met is come near to by one of them."""
        if is_met:
            self.assertIn(limit, ends)
        else:
            self.assertTrue([end for end in ends if abs(fraction(end[0] - limit[0])) < NEAR])


class Tends(Checks):
    def test_reached_and_not_reached(self):
        wanted = (
            (Move(1, 2, 0, 9), 0, (9, 5)), (Move(1, 2, 0, 9), 9, (9, 0)), (Move(1, 2, 0, 9), 10, (9, 1)),
            (Move(1, 2, 0, 9), -50, (9, 6)), (Move(1, -2, 0, 8), 8, (0, 4)), (Move(1, -2, 0, 9), 9, (0, 5)),
            (Move(1, 0, 0, 9), Ratio(7, 2), (Ratio(7, 2), 0)), (Move(1, 0, 0, 9), 12, (9, 1)),
            (Move(1, 0, 0, 9), -12, (0, 1)), (Move(2, 0, 0, 9), 9, (0, None)), (Move(2, 0, 0, 9), 0, (0, 0)),
            (Move(2, 0, 0, 9), -1, (0, 1)), (Move(2, 0, 1, 16), 16, (1, 4)), (Move(2, 0, 1, 17), 17, (1, 5)),
            (Move(2, 20, 0, 16), 0, (16, 3)), (Move(2, 9, 0, 9), 0, (9, None)), (Move(2, 9, 0, 9), 30, (9, 1)),
            (Move.setting(4), 4, (4, 0)), (Move.setting(4), 5, (4, 1)), (Move(3, 5, 0, 9), Ratio(5, 2), (Ratio(5, 2), 0)),
        )
        for move, number, (limit, turns) in wanted:
            self.same(move.tends(number), (Ratio.of(limit), turns))
        self.same(Move(1, 1, 0, 10 ** 30).tends(number=1), (Ratio(10 ** 30), 10 ** 30 - 1))

    def test_tends_as_the_document_says(self):
        for move in SOME:
            for number in HALVES:
                limit, turns = move.tends(ratio(number))
                found = ratio(number)
                row = [found]
                for _ in range(40):
                    found = move.at(found)
                    row.append(found)
                self.assertEqual(turns, row.index(limit) if limit in row else None)
                self.assertLess(abs(fraction(found - limit)), NEAR)


if __name__ == "__main__":
    unittest.main()
