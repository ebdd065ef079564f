"""Tests of fademodes.forgetting: after how many letters the start no longer matters [35]."""

import unittest
from itertools import product

from examples import HELD, ODD_VALUES, Checks, fraction, mute
from fademodes.alike import are_alike
from fademodes.cells import cell_of, cells_met, come_to
from fademodes.cuts import Range, is_within
from fademodes.errors import InvalidProgram, InvalidStarts, InvalidState, TooMany, UnknownLevel
from fademodes.forgetting import forgotten_within, is_remembered, matters_within, remembered, still_apart
from fademodes.joins import joined_behind, joined_state, side_by_side
from fademodes.matters import idle_levels
from fademodes.moves import Move
from fademodes.needed import needed_cuts
from fademodes.programs import Program, Rule
from fademodes.ratios import Ratio, is_number
from fademodes.runs import is_state
from samples import Chance, counter, grid_of, lights, plain_state, plain_step, ratio_state, two_levels

MUTE = mute()
WHOLE = [("open", {"x": HELD.outer()})]
DEPTH = 4


def stretch(low, low_is_above, high, high_is_above):
    return (low, low_is_above), (high, high_is_above)


def falling(many, plus=0):
    """Return a program in which a level falls by 1 with each letter, and that asks whether there is something left."""
    held = Range(0, many)
    less = {"x": Move.adding(-1, held)}
    go = [Rule("on", "some", when=[("x", "above", plus)], moves=less), Rule("on", "none", moves=less)]
    return Program({"x": held}, {"on": {"go": go}})


def cases():
    """Return tuples (program, starts) of small programs."""
    found = [(MUTE, WHOLE), (MUTE, [("open", {"x": 0}), ("mute", {"x": 0})]), (lights(), [("red", {}), ("amber", {}), ("green", {})]),
             (falling(2), [("on", {"x": stretch(0, True, 2, False)})]), (falling(3), [("on", {"x": 0}), ("on", {"x": 3})])]
    for seed in range(60):
        chance = Chance(seed)
        program = chance.program(seed % 3)
        found.append((program, [chance.start(program) for _ in range(1 + seed % 3)]))
    chance = Chance(8)
    return found + [(two_levels(), [chance.start(two_levels()) for _ in range(2)])]


def states_of(program, starts):
    """Return states of the starts, at least one in each cell that they meet, with Fractions."""
    found = []
    for mode, held in starts:
        rows = []
        for level, value in held.items():
            if is_number(value):
                rows.append([Ratio.of(value)])
                continue
            points = [value[0][0], value[1][0]] + [cut[0] for cut in needed_cuts(program)[mode][level]]
            points = sorted({fraction(Ratio.of(point)) for point in points})
            points += [(one + other) / 2 for one, other in zip(points, points[1:])]
            numbers = [Ratio(point.numerator, point.denominator) for point in points]
            rows.append([number for number in numbers if is_within(number, value)])
        found += [plain_state((mode, dict(zip(held, choice)))) for choice in product(*rows)]
    return found


def behind(program, state, history):
    here = state
    for letter in history:
        here = plain_step(program, here, letter)[0]
    return here


def is_among(state, starts):
    for mode, held in starts:
        rows = [(state[1][level], value) for level, value in held.items()]
        if state[0] == mode and all(is_within(number, value) if isinstance(value, tuple) else number == Ratio.of(value) for number, value in rows):
            return True
    return False


class Plain:
    """Whether starts are forgotten, by all histories with a number of letters."""

    def __init__(self, program):
        self.program, self.known = program, {}

    def are_alike(self, one, other):
        cells = tuple(cell_of(self.program, ratio_state(state)) for state in (one, other))
        if cells not in self.known:
            self.known[cells] = are_alike(self.program, ratio_state(one), self.program, ratio_state(other))
        return self.known[cells]

    def are_forgotten(self, states, many):
        for history in product(self.program.letters(), repeat=many):
            last = [behind(self.program, state, history) for state in states]
            if not all(self.are_alike(last[0], other) for other in last):
                return False
        return True


class Forgotten(Checks):
    def test_mute(self):
        self.same(forgotten_within(MUTE, WHOLE), None)
        self.same(forgotten_within(MUTE, [("open", {"x": 0})]), 0)
        self.same(forgotten_within(MUTE, [("open", {"x": 0}), ("open", {"x": 3})]), 0)
        self.same(forgotten_within(starts=[("open", {"x": 0}), ("mute", {"x": 0})], program=MUTE), None)

    def test_some_letters(self):
        for many in (1, 2, 5, 30):
            program = falling(many)
            self.same(forgotten_within(program, [("on", {"x": 0}), ("on", {"x": many})]), many)
            self.same(forgotten_within(program, [("on", {"x": 0}), ("on", {"x": Ratio(2 * many - 1, 2)})]), many)
            self.same(forgotten_within(program, [("on", {"x": many}), ("on", {"x": Ratio(2 * many - 1, 2)})]), 0)
            self.same(forgotten_within(program, [("on", {"x": Range(0, many).outer()})]), many)
            self.same(forgotten_within(program, [("on", {"x": stretch(many - 1, True, many, False)})]), 0)

    def test_answers_on_the_way_may_differ(self):
        rules = {"a": {"go": [Rule("c", "one")]}, "b": {"go": [Rule("c", "two")]}, "c": {"go": [Rule("c", "no")]}}
        self.same(forgotten_within(Program({}, rules), [("a", {}), ("b", {})]), 1)
        self.same(forgotten_within(Program({}, rules), [("a", {}), ("c", {})]), 1)
        self.same(forgotten_within(Program({}, rules), [("c", {}), ("c", {})]), 0)

    def test_the_longest_way_counts(self):
        # With `run` at once all is forgotten, with `go` only at last.
        rules = {"a": {"go": [Rule("b", "x")], "run": [Rule("d", "no")]}, "b": {"go": [Rule("c", "x")], "run": [Rule("d", "no")]},
                 "c": {"go": [Rule("d", "x")], "run": [Rule("d", "no")]}, "d": {letter: [Rule("d", "no")] for letter in ("go", "run")}}
        program = Program({}, rules)
        self.same(forgotten_within(program, [("a", {}), ("d", {})]), 3)
        self.same(forgotten_within(program, [("b", {}), ("d", {})]), 2)
        self.same(still_apart(program, [("a", {}), ("d", {})])[2], ["go", "go"])

    def test_all_short_histories(self):
        many = {}
        for program, starts in cases():
            plain, states = Plain(program), states_of(program, starts)
            found = forgotten_within(program, starts)
            for length in range(DEPTH):
                self.assertIs(plain.are_forgotten(states, length), found is not None and length >= found)
            many[found] = many.get(found, 0) + 1
            self.check_apart(program, starts, found, plain)
            self.check_remembered(program, starts, found, plain)
        self.assertGreater(min(many[found] for found in (None, 0, 1, 2)), 0)

    def check_apart(self, program, starts, many, plain):
        found = still_apart(program, starts)
        self.assertIs(found is None, not many)
        if found is not None:
            state, other, history = found
            self.assertTrue(all(is_state(program, one) and is_among(one, starts) for one in (state, other)))
            self.assertEqual(len(history), many - 1)
            self.assertFalse(plain.are_alike(*[behind(program, plain_state(one), history) for one in (state, other)]))

    def check_remembered(self, program, starts, many, plain):
        found = remembered(program, starts)
        self.assertIs(found is None, many is not None)
        if found is not None:
            state, other, ahead, turn = found
            self.assertTrue(all(is_state(program, one) and is_among(one, starts) for one in (state, other)))
            self.assertGreater(len(turn), 0)
            for times in (0, 1, 2, 5):
                last = [behind(program, plain_state(one), ahead + turn * times) for one in (state, other)]
                self.assertFalse(plain.are_alike(*last))
            self.assertIs(is_remembered(program, starts, found), True)


class Remembered(Checks):
    STARTS = [("open", {"x": 0}), ("open", {"x": stretch(4, False, 5, False)})]

    def test_mute(self):
        state, other, ahead, turn = remembered(starts=WHOLE, program=MUTE)
        self.assertEqual((type(state), type(other), type(ahead), type(turn)), (tuple, tuple, list, list))
        self.same(remembered(MUTE, [("open", {"x": 0})]), None)
        self.same(remembered(falling(5), [("on", {"x": Range(0, 5).outer()})]), None)

    def test_cells_that_change_places(self):
        rules = {"a": {"go": [Rule("b", "one")]}, "b": {"go": [Rule("a", "two")]}}
        program, starts = Program({}, rules), [("a", {}), ("b", {})]
        self.same(remembered(program, starts)[3], ["go", "go"])
        for turn, wanted in ((["go"], False), (["go"] * 2, True), (["go"] * 3, False), (["go"] * 4, True), ([], False)):
            self.assertIs(is_remembered(program, starts, (starts[0], starts[1], [], turn)), wanted)

    def test_one_thing_otherwise(self):
        low, high = ("open", {"x": 0}), ("open", {"x": Ratio(9, 2)})
        turn = ["report", "tick", "tick", "tick"]
        good = (low, high, ["report"], ["report"] * 2)
        check = (MUTE, self.STARTS)
        # Behind a report the first one is at 8 and open, the other one is above 12 and muted: so `tick` brings both down.
        self.assertIs(is_remembered(*check, (low, high, ["tick"] * 9, ["tick"])), False)
        found = remembered(*check)
        self.assertIs(is_remembered(value=found, starts=self.STARTS, program=MUTE), True)
        self.assertIs(is_remembered(*check, found[:2] + (tuple(found[2]), tuple(found[3]))), True)
        self.assertIs(is_remembered(*check, (found[1], found[0]) + found[2:]), True)
        self.assertIs(is_remembered(*check, found[:3] + (found[3] * 3,)), True)
        self.assertIs(is_remembered(*check, found[:2] + (found[2] + found[3] * 2, found[3])), True)
        wrong = [list(found), found[:3], found + ([],), found[:3] + ([],), found[:3] + (found[3] + turn[:1],), (found[0], found[0]) + found[2:], good[:2] + found[3:],
                 (("mute", {"x": 0}),) + found[1:], (("open", {"x": 5}),) + found[1:], (("open", {"x": False}),) + found[1:], found[:1] + (("open", {"x": 3}),) + found[2:]]
        for value in wrong + [found[:at] + (value,) + found[at + 1:] for at in range(4) for value in ODD_VALUES if at != 2 or value not in ([], ())] + list(ODD_VALUES):
            self.assertIs(is_remembered(*check, value), False)
        self.assertIs(is_remembered(MUTE, WHOLE, found), True)
        self.assertIs(is_remembered(MUTE, [("open", {"x": 0})], found), False)

    def test_alike_cells_that_stay(self):
        program = falling(4, 2)
        starts = [("on", {"x": Range(0, 4).outer()})]
        self.assertIs(is_remembered(program, starts, (("on", {"x": 0}), ("on", {"x": 0}), [], ["go"])), False)
        self.assertEqual(len(cells_met(program, starts)), 3)
        same = Program({}, {"a": {"go": [Rule("a", "no")]}, "b": {"go": [Rule("b", "no")]}})
        self.assertIs(is_remembered(same, [("a", {}), ("b", {})], (("a", {}), ("b", {}), [], ["go"])), False)
        self.same(forgotten_within(same, [("a", {}), ("b", {})]), 0)

    def test_long_histories(self):
        found = remembered(MUTE, self.STARTS)
        self.assertIs(is_remembered(MUTE, self.STARTS, found[:3] + (found[3] * 400,)), True)

    def test_new_each_time(self):
        found = remembered(MUTE, self.STARTS)
        for part in (found[0][1], found[1][1], found[2], found[3]):
            part.clear()
        self.assertIs(is_remembered(MUTE, self.STARTS, remembered(MUTE, self.STARTS)), True)
        found = still_apart(falling(3), [("on", {"x": 0}), ("on", {"x": 3})])
        for part in (found[0][1], found[1][1], found[2]):
            part.clear()
        self.assertEqual(still_apart(program=falling(3), starts=[("on", {"x": 0}), ("on", {"x": 3})])[2], ["go", "go"])


class Matters(Checks):
    def test_mute(self):
        self.same(matters_within(MUTE, ("open", {"x": 0}), "x"), None)
        self.same(matters_within(level="x", state=("on", {"x": 1}), program=falling(6)), 6)

    def test_as_the_starts_with_all_numbers(self):
        many = {}
        for seed, (program, _) in enumerate(cases()):
            mode, numbers = Chance(seed).state(program)
            for level, held in program.levels().items():
                found = matters_within(program, (mode, numbers), level)
                self.same(found, forgotten_within(program, [(mode, {**numbers, level: held.outer()}), (mode, numbers)]))
                many[found] = many.get(found, 0) + 1
                if level in idle_levels(program):
                    self.same(found, 0)
        self.assertGreater(min(many[found] for found in (None, 0, 1)), 1)

    def test_idle_levels(self):
        program = Program({"x": HELD, "y": HELD}, {"on": {"go": [Rule("on", "yes", when=[("x", "above", 3)], moves={"y": Move.dividing(2, HELD)}), Rule("on", "no")]}})
        self.same([matters_within(program, ("on", {"x": 1, "y": 1}), level) for level in ("x", "y")], [None, 0])

    def test_the_other_levels_stay_as_they_are(self):
        ask = [Rule("on", "yes", when=[("x", "above", 3), ("y", "above", 3)]), Rule("on", "no")]
        program = Program({"x": HELD, "y": HELD}, {"on": {"go": ask}})
        self.same([matters_within(program, ("on", {"x": 0, "y": number}), "x") for number in (3, 4)], [0, None])


class Joined(Checks):
    def test_side_by_side(self):
        one = falling(3)
        other = Program({"y": Range(0, 2)}, {"on": {"go": [Rule("on", "yes", when=[("y", "above", 0)], moves={"y": Move.setting(0)}), Rule("on", "no")]}})
        program = side_by_side(one, other)
        for x, y, wanted in ((3, 2, 3), (1, 2, 1), (0, 2, 1), (0, 0, 0), (2, 0, 2)):
            starts = [joined_state(("on", {"x": 0}), ("on", {"y": 0})), joined_state(("on", {"x": x}), ("on", {"y": y}))]
            self.same(forgotten_within(program, starts), wanted)
            self.same(max(forgotten_within(one, [("on", {"x": 0}), ("on", {"x": x})]), forgotten_within(other, [("on", {"y": 0}), ("on", {"y": y})])), wanted)
        self.same(matters_within(program, joined_state(("on", {"x": 0}), ("on", {"y": 0})), "y"), 1)

    def test_behind(self):
        ears = Program({}, {"calm": {"some": [Rule("glad", "hm")], "none": [Rule("calm", "hm")]}, "glad": {letter: [Rule("glad", "oh")] for letter in ("some", "none")}})
        program = joined_behind(ears, falling(3))
        starts = [joined_state(("calm", {}), ("on", {"x": number})) for number in (0, 3)]
        self.same(forgotten_within(program, starts), None)
        deaf = Program({}, {"calm": {letter: [Rule("calm", "hm")] for letter in ("some", "none")}})
        program = joined_behind(deaf, falling(3))
        self.same(forgotten_within(program, [joined_state(("calm", {}), ("on", {"x": number})) for number in (0, 3)]), 0)


class Refused(Checks):
    CALLS = ((forgotten_within, ()), (remembered, ()), (is_remembered, (None,)), (still_apart, ()))

    def test_refused(self):
        for call, more in self.CALLS:
            for value in ODD_VALUES:
                self.refuses(InvalidProgram, {"value": value}, call, value, None, *more)
                self.refuses(InvalidStarts, {"position": 1}, call, MUTE, [("open", {"x": 0}), value, None], *more)
                if value != [1]:
                    self.refuses(InvalidStarts, {"position": None}, call, MUTE, value, *more)
        for value in ODD_VALUES:
            self.refuses(InvalidProgram, {"value": value}, matters_within, value, None, None)
            self.refuses(InvalidState, {"value": value}, matters_within, MUTE, value, None)
            if value != "x":
                self.refuses(UnknownLevel, {"value": value}, matters_within, MUTE, ("open", {"x": 0}), value)
        start = ("open", {"x": HELD.outer()})
        self.refuses(InvalidState, {"value": start}, matters_within, MUTE, start, "x")

    def test_cuts_and_cells(self):
        for program, limit in ((counter(601), {"kind": "cuts", "limit": 600}), (grid_of(50, 61), {"kind": "cells", "limit": 3000})):
            state = ("on", {level: 0 for level in program.levels()})
            for call, more in self.CALLS:
                self.refuses(TooMany, limit, call, program, [state], *more)
                self.refuses(InvalidStarts, {"position": None}, call, program, [], *more)
            self.refuses(TooMany, limit, matters_within, program, state, "x")
        for program in (counter(600), grid_of(50, 60)):
            state = ("on", {level: 0 for level in program.levels()})
            self.same([forgotten_within(program, [state]), remembered(program, [state]), still_apart(program, [state])], [0, None, None])

    def test_pairs(self):
        # All pairs of 200 cells, and with one cell more, at most 100 pairs of others.
        limit = {"kind": "pairs", "limit": 20000}
        program = falling(199)
        self.same(forgotten_within(program, [("on", {"x": Range(0, 199).outer()})]), 199)
        for program, many in ((falling(200), 201), (counter(200), 201)):
            starts = [("on", {"x": Range(0, 200).outer()})]
            self.assertEqual(len(cells_met(program, starts)), many)
            for call, more in self.CALLS:
                self.refuses(TooMany, limit, call, program, starts, *more)
            self.refuses(TooMany, limit, matters_within, program, ("on", {"x": 0}), "x")

    def test_just_as_many_pairs(self):
        # A cell of the first mode and one of the second, each counted up by a letter of its own.
        for many, more, is_few in ((100, 200, True), (160, 125, True), (101, 199, False), (137, 146, False)):
            program, starts = two_modes(many, more)
            self.assertEqual(len(list(come_to(program, starts))), many + more)
            if is_few:
                self.same(forgotten_within(program, starts), 0)
            else:
                self.assertGreater(many * more, 20000)
                for call, extra in self.CALLS:
                    self.refuses(TooMany, {"kind": "pairs", "limit": 20000}, call, program, starts, *extra)


def two_modes(many, more):
    """Return a program with two modes that are alike, in each of which a letter of its own counts up, and a start in each."""
    levels = {"x": Range(0, many - 1), "y": Range(0, more - 1)}
    up = [Rule("a", "no", when=[("x", "from", many - 1)]), Rule("a", "no", moves={"x": Move.adding(1, levels["x"])})]
    also = [Rule("b", "no", when=[("y", "from", more - 1)]), Rule("b", "no", moves={"y": Move.adding(1, levels["y"])})]
    rules = {"a": {"one": up, "two": [Rule("a", "no")]}, "b": {"one": [Rule("b", "no")], "two": also}}
    return Program(levels, rules), [("a", {"x": 0, "y": 0}), ("b", {"x": 0, "y": 0})]


if __name__ == "__main__":
    unittest.main()
