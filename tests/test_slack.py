"""Tests of fademodes.slack: when conditions decide [27], their slack [28], and runs that show where it ends."""

import unittest
from fractions import Fraction
from itertools import product

from examples import HELD, ODD_VALUES, Checks, fraction, mute
from fademodes.alike import are_alike
from fademodes.cells import cell_of, come_to, state_in
from fademodes.cuts import Range, is_above, is_within
from fademodes.errors import (
    InvalidNumber, InvalidPlace, InvalidPosition, InvalidProgram, InvalidStarts, TooMany)
from fademodes.moves import Move
from fademodes.needed import needed_cuts
from fademodes.programs import Program, Rule
from fademodes.ratios import Ratio, is_number
from fademodes.runs import is_state, run
from fademodes.slack import beyond_slack, deciding, slack, slacks
from samples import MIRRORED_SIDES, TRUTHS, Chance, counter, grid_of, mirrored, mirrored_cut, mirrored_start, plain_state, two_levels

MUTE = mute()
STARTS = [("open", {"x": 0})]
REPORT = ("open", "report", 0)
SIDES = ("from", "above", "to", "below")


def stretch(low, low_is_above, high, high_is_above):
    return (low, low_is_above), (high, high_is_above)


def conditions(program):
    """Return all tuples (place, position)."""
    return [(place, position) for place in program.places() for position in range(len(program.rule(place).when()))]


def cases():
    """Return tuples (program, starts) of small programs."""
    found = [(MUTE, STARTS), (MUTE, [("open", {"x": stretch(1, True, 3, False)}), ("mute", {"x": 7})])]
    for seed in range(60):
        chance = Chance(seed)
        program = chance.program(1 + seed % 2)
        found.append((program, [chance.start(program) for _ in range(1 + seed % 3)]))
    chance = Chance(8)
    return found + [(two_levels(), [chance.start(two_levels()) for _ in range(2)])]


def number_name(number):
    letters = "abcdefghij"
    return "".join(letters[int(sign)] for sign in str(number))


def with_places_told(program):
    """Return the program in which each rule has an answer of its own."""
    places = list(program.places())
    rules = {mode: {letter: [program.rule(place).changed(answer=number_name(number)) for number, place in enumerate(places) if place[:2] == (mode, letter)]
                    for letter in program.letters()} for mode in program.modes()}
    return Program(program.levels(), rules)


def states_of(programs, starts):
    """Return states of the starts, at least one in each cell of each program that they meet."""
    found = []
    for mode, held in starts:
        rows = []
        for level, value in held.items():
            if is_number(value):
                rows.append([value])
                continue
            low, high = fraction(Ratio.of(value[0][0])), fraction(Ratio.of(value[1][0]))
            points = {low, high} | {fraction(cut[0]) for program in programs for cut in needed_cuts(program)[mode][level]}
            points = sorted(point for point in points if low <= point <= high)
            points += [(one + other) / 2 for one, other in zip(points, points[1:])]
            numbers = [Ratio(point.numerator, point.denominator) for point in points]
            rows.append([number for number in numbers if is_within(number, value)])
        found += [(mode, dict(zip(held, choice))) for choice in product(*rows)]
    return found


def has_few_cuts(program):
    try:
        found = needed_cuts(program)
    except TooMany:
        return False
    return sum(len(cuts) for mode in found for cuts in found[mode].values()) < 80


def is_in_start(state, start):
    rows = [(state[1][level], value) for level, value in start[1].items()]
    return state[0] == start[0] and all(is_within(number, value) if isinstance(value, tuple) else number == Ratio.of(value)
                                        for number, value in rows)


def is_between(number, cuts):
    first, second = cuts
    return (first is None or is_above(number, first)) and (second is None or not is_above(number, second))


def probes(cuts, number):
    """Return numbers at, beside and between what is in these cuts, and far away."""
    points = [fraction(Ratio.of(number))] + [fraction(cut[0]) for cut in cuts if cut is not None]
    found = points + [point + sign * step for point in points for step in (Fraction(1, 7), Fraction(1, 9999), 40) for sign in (1, -1)]
    return [Ratio(point.numerator, point.denominator) for point in sorted(set(found))]


class Deciding(Checks):
    def test_mute(self):
        self.same(deciding(MUTE, STARTS, REPORT, 0), ([("open", (1,)), ("open", (2,))], [("open", (0,))]))
        self.same(deciding(position=0, place=("mute", "tick", 0), starts=STARTS, program=MUTE),
                  ([("mute", (0,))], [("mute", (1,)), ("mute", (2,)), ("mute", (3,)), ("mute", (4,))]))
        self.same(deciding(MUTE, [("open", {"x": 16})], REPORT, 0), ([("open", (position,)) for position in (1, 2, 3)], [("open", (0,))]))

    def test_by_the_words_of_the_point(self):
        for program, starts in cases():
            rows = [row[0] for row in come_to(program, starts)]
            for place, position in conditions(program):
                wanted = [], []
                for cell in sorted(rows):
                    truth = self.truth(program, plain_state(state_in(program, cell)), place, position)
                    if truth is not None:
                        wanted[0 if truth else 1].append(cell)
                self.same(deciding(program, starts, place, position), wanted)

    def truth(self, program, state, place, position):
        """Return the truth of a condition, or None where it does not decide."""
        mode, letter, at = place
        if state[0] != mode:
            return None
        rows = [self.truths(rule, state) for rule in program.rules(mode, letter)[:at + 1]]
        others = [truth for number, truth in enumerate(rows[at]) if number != position]
        return None if any(all(row) for row in rows[:at]) or not all(others) else rows[at][position]

    def truths(self, rule, state):
        return [TRUTHS[side](state[1][level], fraction(number)) for level, side, number in rule.when()]

    def test_a_rule_that_another_one_stands_ahead_of(self):
        ask = [Rule("on", "high", when=[("x", "from", 9)]), Rule("on", "mid", when=[("x", "from", 4)]), Rule("on", "low")]
        program = Program({"x": HELD}, {"on": {"ask": ask, "up": [Rule("on", "no", moves={"x": Move.adding(1, HELD)})]}})
        starts = [("on", {"x": 0})]
        found = deciding(program, starts, ("on", "ask", 1), 0)
        self.same(found, ([("on", (at,)) for at in range(4, 9)], [("on", (at,)) for at in range(4)]))
        self.same(slack(program, starts, ("on", "ask", 1), 0), ((Ratio(3), True), (Ratio(4), True)))
        self.same(slack(program, starts, ("on", "ask", 0), 0), ((Ratio(8), True), (Ratio(9), True)))
        hidden = program.with_rules("on", "ask", [ask[1], ask[0], ask[2]])
        self.same(deciding(hidden, starts, ("on", "ask", 1), 0), ([], [("on", (at,)) for at in range(4)]))
        self.same(slack(hidden, starts, ("on", "ask", 1), 0), ((Ratio(3), True), None))

    def test_new_each_time(self):
        for found in deciding(MUTE, STARTS, REPORT, 0):
            found.clear()
        self.same(deciding(MUTE, STARTS, REPORT, 0), ([("open", (1,)), ("open", (2,))], [("open", (0,))]))


def one_condition(side, number=4):
    """Return a program that asks for a level that goes up by 1 and is halved, with starts from which it gets to 8 at most."""
    ask = [Rule("on", "yes", when=[("x", side, number)]), Rule("on", "no")]
    return Program({"x": Range(0, 8)}, {"on": {"ask": ask, "go": [Rule("on", "no", moves={"x": Move(2, 8, 0, 8)})]}})


class Slack(Checks):
    def test_mute(self):
        self.same(slack(MUTE, STARTS, REPORT, 0), ((Ratio(8, 3), False), (Ratio(4), True)))
        self.same(slack(position=0, place=("mute", "tick", 0), starts=STARTS, program=MUTE), ((Ratio(2), False), (Ratio(2), True)))

    def test_all_sides_with_ends_that_are_met_or_approached(self):
        # From 0 the level goes 0, 4, 6, 7 .. and comes as near to 8 as one likes.
        for side, number, wanted in (
                ("from", 5, ((Ratio(4), True), (Ratio(6), True))), ("from", 6, ((Ratio(4), True), (Ratio(6), True))),
                ("from", 8, ((Ratio(8), False), None)), ("from", 0, (None, (Ratio(0), True))),
                ("above", 5, ((Ratio(4), False), (Ratio(6), False))), ("above", 4, ((Ratio(4), False), (Ratio(6), False))),
                ("above", 8, ((Ratio(8), False), None)), ("above", -3, (None, (Ratio(0), False))),
                ("to", 5, ((Ratio(4), False), (Ratio(6), False))), ("to", 8, ((Ratio(8), False), None)),
                ("to", 4, ((Ratio(4), False), (Ratio(6), False))), ("to", -1, (None, (Ratio(0), False))),
                ("below", 5, ((Ratio(4), True), (Ratio(6), True))), ("below", 6, ((Ratio(4), True), (Ratio(6), True))),
                ("below", 9, ((Ratio(8), False), None)), ("below", 0, (None, (Ratio(0), True)))):
            self.same(slack(one_condition(side, number), [("on", {"x": 0})], ("on", "ask", 0), 0), wanted)

    def test_lower_ends_that_are_only_approached(self):
        held = Range(0, 8)
        for side, wanted in (("from", (None, (Ratio(0), True))), ("above", (None, (Ratio(0), True))),
                             ("to", (None, (Ratio(0), True))), ("below", (None, (Ratio(0), True)))):
            ask = [Rule("on", "yes", when=[("x", side, 0)]), Rule("on", "no")]
            program = Program({"x": held}, {"on": {"ask": ask, "go": [Rule("on", "no", moves={"x": Move.dividing(2, held)})]}})
            self.same(slack(program, [("on", {"x": 8})], ("on", "ask", 0), 0), wanted)

    def test_nobody_asks(self):
        program = MUTE.with_rules("open", "report", [Rule("open", "open"), Rule("mute", "mute", when=[("x", "from", 4)]), Rule("mute", "mute")])
        self.same(slack(program, STARTS, ("open", "report", 1), 0), (None, None))
        self.same(deciding(program, STARTS, ("open", "report", 1), 0), ([], []))
        self.same(beyond_slack(program, STARTS, ("open", "report", 1), 0, 10 ** 9), None)
        self.same(slack(program, STARTS, ("mute", "tick", 0), 0), (None, None))

    def test_a_condition_twice_in_one_rule(self):
        program = MUTE.with_rules("open", "report", [Rule("mute", "mute", when=[("x", "from", 4), ("x", "from", 4)]), Rule("open", "open")])
        starts = [("open", {"x": stretch(1, False, 6, True)})]
        for position in (0, 1):
            here = [cell_of(program, ("open", {"x": number})) for number in (4, 6)]
            self.same(deciding(program, starts, REPORT, position), (sorted(set(here)), []))
            self.same(slack(program, starts, REPORT, position), (None, (Ratio(4), True)))
            self.same(beyond_slack(program, starts, REPORT, position, -9), None)

    def test_other_conditions_of_the_rule(self):
        ask = [Rule("on", "yes", when=[("x", "from", 2), ("y", "below", 3)]), Rule("on", "no")]
        program = Program({"x": HELD, "y": HELD}, {"on": {"ask": ask, "up": [Rule("on", "no", moves={"x": Move.adding(1, HELD), "y": Move.adding(1, HELD)})]}})
        starts = [("on", {"x": 0, "y": 0})]
        self.same(slack(program, starts, ("on", "ask", 0), 0), ((Ratio(1), True), (Ratio(2), True)))
        self.same(slack(program, starts, ("on", "ask", 0), 1), ((Ratio(2), True), (Ratio(3), True)))

    def test_mirrored_programs(self):
        for program, starts in cases():
            for place, position in conditions(program):
                first, second = slack(program, starts, place, position)
                turned = slack(mirrored(program), [mirrored_start(start) for start in starts], place, position)
                self.same(turned, tuple(None if cut is None else mirrored_cut(cut) for cut in (second, first)))
        self.assertEqual(sorted(MIRRORED_SIDES), sorted(SIDES))

    def test_other_numbers_take_other_rules_and_those_in_the_slack_do_not(self):
        for program, starts in cases():
            told = with_places_told(program)
            for place, position in conditions(program):
                number = program.rule(place).when()[position][2]
                found = slack(program, starts, place, position)
                self.assertTrue(is_between(number, found))
                for probe in probes(found, number):
                    other = told.with_number(place, position, probe)
                    if has_few_cuts(other):
                        are_same = all(are_alike(told, state, other, state) for state in states_of((told, other), starts))
                        self.assertIs(is_between(probe, found), are_same)

    def test_new_each_time(self):
        self.same(slack(MUTE, STARTS, REPORT, 0), slack(MUTE, tuple(STARTS), REPORT, 0))


class Beyond(Checks):
    def check_run(self, program, starts, place, position, number):
        """Check what is returned for a number beyond the slack, and return the history."""
        state, history = beyond_slack(program, starts, place, position, number)
        self.assertTrue(is_state(program, state))
        self.assertTrue(all(isinstance(value, Ratio) for value in state[1].values()))
        self.assertTrue(any(is_in_start(state, start) for start in starts))
        self.assertTrue(1 <= len(history) <= 300)
        other = program.with_number(place, position, number)
        places = [row[2] for row in run(program, state, history)]
        others = [row[2] for row in run(other, state, history)]
        self.assertEqual(places[:-1], others[:-1])
        self.assertNotEqual(places[-1], others[-1])
        return history

    def test_mute(self):
        for number, many in ((5, 3), (Ratio(4001, 1000), 3), (100, 2), (2, 4), (0, 1), (-100, 1), (Ratio(21, 8), 10)):
            self.assertEqual(len(self.check_run(MUTE, STARTS, REPORT, 0, number)), many)
        for number in (4, 3, Ratio(8, 3), Ratio(27, 10)):
            self.same(beyond_slack(number=number, position=0, place=REPORT, starts=STARTS, program=MUTE), None)

    def test_all_sides(self):
        for side in SIDES:
            program = one_condition(side, 5)
            for number in (3, Ratio(39, 10), Ratio(61, 10), 7, 400, -400):
                self.check_run(program, [("on", {"x": 0})], ("on", "ask", 0), 0, number)
            self.same(beyond_slack(program, [("on", {"x": 0})], ("on", "ask", 0), 0, 5), None)

    def test_small_programs(self):
        many = 0
        for program, starts in cases():
            for place, position in conditions(program):
                found = slack(program, starts, place, position)
                for number in probes(found, program.rule(place).when()[position][2]):
                    if is_between(number, found):
                        self.same(beyond_slack(program, starts, place, position, number), None)
                    else:
                        self.check_run(program, starts, place, position, number)
                        many += 1
        self.assertGreater(many, 500)

    def test_the_shortest_on_both_sides(self):
        held = Range(0, 20)
        ask = [Rule("on", "yes", when=[("x", "from", 10)]), Rule("on", "no")]
        program = Program({"x": held}, {"on": {"ask": ask, "less": [Rule("on", "no", moves={"x": Move.adding(-2, held)})],
                                               "more": [Rule("on", "no", moves={"x": Move.adding(1, held)})]}})
        starts = [("on", {"x": 4}), ("on", {"x": 18})]
        for number in range(-2, 23):
            if number != 10:
                history = self.check_run(program, starts, ("on", "ask", 0), 0, number)
                self.assertEqual(len(history), self.fewest(lambda x: (x >= 10) != (x >= number)))

    def fewest(self, is_wanted):
        """Return the fewest letters, with one to ask, behind which one of 4 and 18 that goes 1 up or 2 down is wanted."""
        here, many = {4, 18}, 1
        while not any(is_wanted(x) for x in here):
            here, many = {max(x - 2, 0) for x in here} | {min(x + 1, 20) for x in here}, many + 1
        return many

    def test_three_hundred_letters(self):
        program, starts = counter_of(400), [("on", {"x": 0})]
        place = ("on", "ask", 0)
        self.same(slack(program, starts, place, 0), ((Ratio(399), True), (Ratio(400), True)))
        self.assertEqual(len(self.check_run(program, starts, place, 0, 299)), 300)
        self.refuses(TooMany, {"kind": "letters", "limit": 300}, beyond_slack, program, starts, place, 0, 300)
        self.refuses(TooMany, {"kind": "letters", "limit": 300}, beyond_slack, program, starts, place, 0, 399)
        self.refuses(TooMany, {"kind": "letters", "limit": 300}, beyond_slack, program, starts, place, 0, 401)
        self.same(beyond_slack(program, starts, place, 0, Ratio(799, 2)), None)

    def test_a_number_that_is_very_near(self):
        self.refuses(TooMany, {"kind": "letters", "limit": 300}, beyond_slack, MUTE, STARTS, REPORT, 0, Ratio(8 * 10 ** 70, 3 * 10 ** 70 + 1))
        self.check_run(MUTE, STARTS, REPORT, 0, Ratio(8 * 10 ** 50, 3 * 10 ** 50 + 1))

    def test_new_each_time(self):
        found = beyond_slack(MUTE, STARTS, REPORT, 0, 2)
        found[0][1].clear()
        found[1].clear()
        self.check_run(MUTE, STARTS, REPORT, 0, 2)


def counter_of(many):
    """Return a program that counts up to 500, and asks for a number on the way."""
    held = Range(0, 500)
    ask = [Rule("on", "yes", when=[("x", "from", many)]), Rule("on", "no")]
    return Program({"x": held}, {"on": {"ask": ask, "up": [Rule("on", "no", moves={"x": Move.adding(1, held)})]}})


class Slacks(Checks):
    def test_mute(self):
        self.same(list(slacks(MUTE, STARTS)), [(("mute", "tick", 0), 0, ((Ratio(2), False), (Ratio(2), True))),
                                               (REPORT, 0, ((Ratio(8, 3), False), (Ratio(4), True)))])
        self.same(list(slacks(starts=STARTS, program=MUTE)), list(slacks(MUTE, STARTS)))

    def test_in_sequence(self):
        for program, starts in cases():
            wanted = [(place, position, slack(program, starts, place, position)) for place, position in sorted(conditions(program))]
            self.same(list(slacks(program, starts)), wanted)

    def test_no_conditions(self):
        program = Program({}, {"on": {"go": [Rule("on", "no")]}})
        self.same(list(slacks(program, [("on", {})])), [])


class Refused(Checks):
    CALLS = (deciding, slack, beyond_slack)

    def test_refused(self):
        for call in self.CALLS:
            more = (None,) if call is beyond_slack else ()
            for value in ODD_VALUES:
                self.refuses(InvalidProgram, {"value": value}, call, value, None, None, None, *more)
                self.refuses(InvalidStarts, {"position": 1}, call, MUTE, STARTS + [value, None], None, None, *more)
                self.refuses(InvalidPlace, {"value": value}, call, MUTE, STARTS, value, None, *more)
                self.refuses(InvalidPosition, {"value": value}, call, MUTE, STARTS, REPORT, value, *more)
                if value != [1]:
                    self.refuses(InvalidStarts, {"position": None}, call, MUTE, value, None, None, *more)
            for value in (("open", "report", 2), ("open", "report", False), ("open", "report"), ["open", "report", 0], ("shut", "report", 0)):
                self.refuses(InvalidPlace, {"value": value}, call, MUTE, STARTS, value, 0, *more)
            for value in (1, -1, 2):
                self.refuses(InvalidPosition, {"value": value}, call, MUTE, STARTS, REPORT, value, *more)
            self.refuses(InvalidPosition, {"value": 0}, call, MUTE, STARTS, ("open", "report", 1), 0, *more)
        for value in ODD_VALUES:
            if not is_number(value):
                self.refuses(InvalidNumber, {"value": value}, beyond_slack, MUTE, STARTS, REPORT, 0, value)

    def test_slacks(self):
        for value in ODD_VALUES:
            self.refuses(InvalidProgram, {"value": value}, lambda: next(slacks(value, STARTS)))
            if value != [1]:
                self.refuses(InvalidStarts, {"position": None}, lambda: next(slacks(MUTE, value)))
            self.refuses(InvalidStarts, {"position": 0}, lambda: next(slacks(MUTE, [value])))

    def test_cuts(self):
        much, starts, place = counter(601), [("on", {"x": 0})], ("on", "ask", 0)
        many = {"kind": "cuts", "limit": 600}
        for call in self.CALLS:
            more = (5,) if call is beyond_slack else ()
            self.refuses(TooMany, many, call, much, starts, place, 0, *more)
            self.refuses(InvalidPosition, {"value": None}, call, much, starts, place, None, *more)
        self.refuses(InvalidNumber, {"value": None}, beyond_slack, much, starts, place, 0, None)
        self.refuses(TooMany, many, lambda: next(slacks(much, starts)))
        few = counter(600)
        self.same(slack(few, starts, place, 0), ((Ratio(599), True), (Ratio(600), True)))
        self.refuses(TooMany, {"kind": "letters", "limit": 300}, beyond_slack, few, starts, place, 0, 300)

    def test_cells(self):
        few, much = grid_of(50, 60), grid_of(50, 61)
        place = ("on", "ask", 0)
        starts = [("on", {"x": 0, "y": 0})]
        many = {"kind": "cells", "limit": 3000}
        self.refuses(TooMany, many, deciding, much, starts, place, 0)
        self.refuses(TooMany, many, slack, much, starts, place, 0)
        self.refuses(TooMany, many, beyond_slack, much, starts, place, 0, 0)
        self.refuses(TooMany, many, lambda: next(slacks(much, starts)))
        self.refuses(InvalidNumber, {"value": None}, beyond_slack, much, starts, place, 0, None)
        self.same(deciding(few, starts, place, 0), ([("on", (49, 59))], [("on", (at, 59)) for at in range(49)]))
        self.same(slack(few, starts, place, 1), ((Ratio(58), True), (Ratio(59), True)))
        self.same(beyond_slack(few, starts, place, 1, 58)[1], ["upx"] * 49 + ["upy"] * 58 + ["ask"])


if __name__ == "__main__":
    unittest.main()
