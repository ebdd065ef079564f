"""Tests of fademodes.ends: ends in cells and modes [23], with limits [24], and bound tables [26]."""

import unittest

from examples import HELD, ODD_VALUES, Checks, mute
from fademodes.cells import cell_of, cell_step, come_to
from fademodes.cuts import Range, mark_of
from fademodes.ends import bound_table, end_of, ends, is_bound_table
from fademodes.errors import InvalidProgram, InvalidSide, InvalidStarts, TooMany, UnknownLevel, UnknownMode
from fademodes.joins import side_by_side
from fademodes.moves import Move
from fademodes.needed import needed_cuts
from fademodes.programs import Program, Rule
from fademodes.ratios import Ratio
from fademodes.runs import run
from samples import (
    Chance, counter, grid_of, is_over, mirrored, mirrored_cut, mirrored_start, plain_cut, plain_image, plain_needed,
    plain_part, plain_state, two_levels)

MUTE = mute()
STARTS = [("open", {"x": 0})]
SIDES = ("upper", "lower")
FINER = {"mute": {"x": [(2, False), (4, False), (8, False), (12, False), (16, False)]},
         "open": {"x": [(4, False), (8, False), (12, False), (16, False)]}}
NO_SIDES = tuple(value for value in ODD_VALUES) + ("Upper", "up", "from", "below")


def stretch(low, low_is_above, high, high_is_above):
    return (low, low_is_above), (high, high_is_above)


def one_letter(*moves, held=HELD):
    """Return a program with one mode, a level x, and a letter for each move."""
    return Program({"x": held}, {"on": {f"do.{name}": [Rule("on", "no", moves={"x": move})] for name, move in zip("abcd", moves)}})


def cases():
    """Return tuples (program, starts) of small programs."""
    found = [(MUTE, STARTS), (MUTE, [("open", {"x": stretch(1, True, 3, False)}), ("mute", {"x": 7})])]
    chance = Chance(8)
    found.append((two_levels(), [chance.start(two_levels()) for _ in range(2)]))
    for seed in range(30):
        chance = Chance(seed)
        program = chance.program(1 + seed % 2)
        found.append((program, [chance.start(program) for _ in range(1 + seed % 3)]))
    return found


def is_past(side, cut, other):
    """Tell whether a plain cut is beyond another one."""
    return cut > other if side == "upper" else cut < other


class Ends(Checks):
    def test_mute(self):
        below, above = False, True
        self.same(ends(MUTE, STARTS, "x", "upper"), {
            ("mute", (0,)): (Ratio(2), below), ("mute", (1,)): (Ratio(4), below), ("mute", (2,)): (Ratio(8), below),
            ("mute", (3,)): (Ratio(16), below), ("mute", (4,)): (Ratio(16), above), ("open", (0,)): (Ratio(8, 3), below),
            ("open", (1,)): (Ratio(16, 3), below), ("open", (2,)): (Ratio(32, 3), below)})
        self.same(ends(MUTE, STARTS, "x", "lower"), {
            ("mute", (0,)): (Ratio(1), below), ("mute", (1,)): (Ratio(2), below), ("mute", (2,)): (Ratio(4), below),
            ("mute", (3,)): (Ratio(8), below), ("mute", (4,)): (Ratio(16), below), ("open", (0,)): (Ratio(0), below),
            ("open", (1,)): (Ratio(4), below), ("open", (2,)): (Ratio(8), below)})

    def test_end_of_mute(self):
        found = [end_of(MUTE, STARTS, "x", side, mode) for side in SIDES for mode in ("open", "mute", None)]
        self.same(found, [(Ratio(32, 3), False), (Ratio(16), True), (Ratio(16), True),
                          (Ratio(0), False), (Ratio(1), False), (Ratio(0), False)])
        self.same(end_of(mode="open", side="upper", level="x", starts=STARTS, program=MUTE), (Ratio(32, 3), False))
        self.same(end_of(MUTE, STARTS, "x", "upper"), (Ratio(16), True))

    def test_the_keys_are_the_cells_that_are_come_to_sorted(self):
        for program, starts in cases():
            for level in program.levels():
                for side in SIDES:
                    found = ends(side=side, level=level, starts=starts, program=program)
                    self.assertEqual(list(found), sorted(row[0] for row in come_to(program, starts)))

    def test_an_end_that_is_only_approached(self):
        program = one_letter(Move(2, 8, 0, 16))
        for number, side, wanted in ((0, "upper", (Ratio(8), False)), (0, "lower", (Ratio(0), False)), (8, "upper", (Ratio(8), True)),
                                     (16, "lower", (Ratio(8), True)), (16, "upper", (Ratio(16), True)), (8, "lower", (Ratio(8), False))):
            self.same(end_of(program, [("on", {"x": number})], "x", side), wanted)

    def test_an_end_that_is_met_behind_many_turns(self):
        program = one_letter(Move.adding(Ratio(1, 1000), HELD))
        self.same(end_of(program, STARTS_ON, "x", "upper"), (Ratio(16), True))
        program = one_letter(Move(2, 8, 0, Ratio(15, 2)))
        self.same(end_of(program, STARTS_ON, "x", "upper"), (Ratio(15, 2), True))
        program = one_letter(Move.adding(Ratio(-1, 1000), HELD))
        self.same(end_of(program, [("on", {"x": 3})], "x", "lower"), (Ratio(0), False))

    def test_rounds_of_several_letters(self):
        held = Range(0, 100)
        rules = {"a": {"go": [Rule("b", "no", moves={"x": Move(3, 7, 0, 100)})]}, "b": {"go": [Rule("a", "no", moves={"x": Move(2, 1, 0, 100)})]}}
        program = Program({"x": held}, rules)
        # Around from a: (x + 10) / 6, which stays at 2; from b: (x + 15) / 6, which stays at 3.
        starts = [("a", {"x": 0})]
        self.same([end_of(program, starts, "x", "upper", mode) for mode in "ab"], [(Ratio(2), False), (Ratio(3), False)])
        starts = [("a", {"x": 50})]
        self.same([end_of(program, starts, "x", "lower", mode) for mode in "ab"], [(Ratio(2), True), (Ratio(3), True)])
        self.same([end_of(program, starts, "x", "upper", mode) for mode in "ab"], [(Ratio(50), True), (Ratio(19), True)])

    def test_the_greatest_of_several_rounds(self):
        program = one_letter(Move(2, 3, 0, 16), Move(3, 8, 0, 16), Move(5, 16, 0, 16))
        self.same([end_of(program, STARTS_ON, "x", side) for side in SIDES], [(Ratio(4), False), (Ratio(0), False)])
        self.same(end_of(program, [("on", {"x": 16})], "x", "lower"), (Ratio(3), True))

    def test_starts_with_stretches(self):
        stay = one_letter(Move.staying(HELD))
        for given, high, low in ((stretch(1, True, 3, False), (Ratio(3), False), (Ratio(1), True)),
                                 (stretch(1, False, 3, True), (Ratio(3), True), (Ratio(1), False)),
                                 (5, (Ratio(5), True), (Ratio(5), False)), (HELD.outer(), (Ratio(16), True), (Ratio(0), False))):
            starts = [("on", {"x": given})]
            self.same([end_of(stay, starts, "x", side) for side in SIDES], [high, low])
        starts = [("open", {"x": stretch(3, False, 5, False)})]
        self.same(ends(MUTE, starts, "x", "lower")["open", (1,)], (Ratio(4), False))
        half = one_letter(Move(2, 2, 3, 16))
        self.same(end_of(half, [("on", {"x": stretch(4, True, 9, False)})], "x", "lower"), (Ratio(3), False))

    def test_several_starts_in_one_cell(self):
        stay = one_letter(Move.staying(HELD))
        starts = [("on", {"x": stretch(2, True, 5, False)}), ("on", {"x": 5}), ("on", {"x": stretch(2, False, 4, True)})]
        self.same([end_of(stay, starts, "x", side) for side in SIDES], [(Ratio(5), True), (Ratio(2), False)])
        self.same([end_of(stay, starts[::-1], "x", side) for side in SIDES], [(Ratio(5), True), (Ratio(2), False)])

    def test_modes_that_are_not_come_to(self):
        program = Program({"x": HELD}, {"on": {"go": [Rule("on", "no")]}, "off": {"go": [Rule("on", "no")]}})
        for side in SIDES:
            self.same(end_of(program, STARTS_ON, "x", side, "off"), None)
            self.same(list(ends(program, STARTS_ON, "x", side)), [("on", (0,))])

    def test_levels_one_by_one(self):
        held = Range(0, 8)
        rules = {"a": [Rule("on", "no", moves={"x": Move.adding(1, held), "y": Move.adding(-1, held)})],
                 "b": [Rule("on", "no", moves={"x": Move.adding(-1, held), "y": Move.adding(1, held)})]}
        program = Program({"x": held, "y": held}, {"on": rules})
        starts = [("on", {"x": 4, "y": 4})]
        self.same([end_of(program, starts, level, "upper") for level in "xy"], [(Ratio(8), True)] * 2)

    def test_mirrored_programs_have_mirrored_ends(self):
        for program, starts in cases():
            other, other_starts = mirrored(program), [mirrored_start(start) for start in starts]
            for level in program.levels():
                for mode in program.modes():
                    upper, lower = [end_of(program, starts, level, side, mode) for side in SIDES]
                    turned = [end_of(other, other_starts, level, side, mode) for side in SIDES]
                    self.same(turned, [None if end is None else mirrored_cut(end) for end in (lower, upper)])

    def test_no_run_passes_an_end(self):
        for seed, (program, starts) in enumerate(cases()):
            chance = Chance(seed)
            found = {(level, side): ends(program, starts, level, side) for level in program.levels() for side in SIDES}
            for start in starts:
                state = self.state_of(chance, start)
                history = [chance.random.choice(program.letters()) for _ in range(40)]
                for state in [state] + [told[0] for told in run(program, state, history)]:
                    for level, number in plain_state(state)[1].items():
                        cell = cell_of(program, state)
                        self.assertFalse(is_over(number, plain_cut(found[level, "upper"][cell])))
                        self.assertTrue(is_over(number, plain_cut(found[level, "lower"][cell])))

    def state_of(self, chance, start):
        numbers = {level: mark_of(value) if isinstance(value, tuple) else value for level, value in start[1].items()}
        return start[0], numbers

    def test_ends_in_a_joined_program(self):
        other = Program({}, {"a": {"report": [Rule("a", "one")], "tick": [Rule("b", "one")]},
                             "b": {"report": [Rule("a", "two")], "tick": [Rule("b", "two")]}})
        joined = side_by_side(MUTE, other)
        found = [end_of(joined, [("open.a", {"x": 0})], "x", "upper", mode) for mode in ("open.a", "open.b", "mute.a", "mute.b")]
        self.same(found, [(Ratio(32, 3), False), (Ratio(16, 3), False), (Ratio(16), True), (Ratio(8), True)])

    def test_new_each_time(self):
        found = ends(MUTE, STARTS, "x", "upper")
        found.clear()
        self.assertEqual(len(ends(MUTE, STARTS, "x", "upper")), 8)

    def test_arguments_are_not_changed(self):
        starts = [("open", {"x": stretch(1, True, 3, False)})]
        before = repr(starts)
        for side in SIDES:
            self.assertIs(is_bound_table(MUTE, starts, "x", side, bound_table(MUTE, starts, "x", side)), True)
        self.assertEqual(repr(starts), before)


STARTS_ON = [("on", {"x": 0})]


class BoundTables(Checks):
    def test_tables_that_are_made(self):
        for program, starts in cases():
            for level in program.levels():
                for side in SIDES:
                    table = bound_table(program, starts, level, side)
                    self.assertIs(is_bound_table(program, starts, level, side, table), True)
                    self.check_table(program, starts, level, side, table)
                    last = end_of(program, starts, level, side)
                    self.assertFalse([cut for cut in table[1].values() if is_past(side, plain_cut(cut), plain_cut(last))])

    def check_table(self, program, starts, level, side, table):
        """Check a bound table with the needed cuts by the words of the document."""
        family, cuts = table
        self.assertEqual(family, needed_cuts(program))
        needed = plain_needed(program)
        for cell, cut in cuts.items():
            for start in starts:
                part = plain_part(program, needed, start, cell)
                if part is not None:
                    end = part[level][1] if side == "upper" else part[level][0]
                    self.assertFalse(is_past(side, end, plain_cut(cut)))
            for letter in program.letters():
                led, _, place = cell_step(program, cell, letter)
                made = plain_image(program.move_of(place, level), plain_cut(cut), side)
                self.assertFalse(is_past(side, made, plain_cut(cuts[led])))
        self.assertEqual(sorted(cuts), sorted(row[0] for row in come_to(program, starts)))

    def test_by_name(self):
        table = bound_table(side="upper", level="x", starts=STARTS, program=MUTE)
        self.assertIs(is_bound_table(value=table, side="upper", level="x", starts=STARTS, program=MUTE), True)

    def test_the_ends_are_the_least_table(self):
        family, table = bound_table(MUTE, STARTS, "x", "upper")
        for cell in table:
            for less in ((table[cell][0] - Ratio(1, 1000), True), (table[cell][0], False)):
                if is_past("upper", plain_cut(table[cell]), plain_cut(less)):
                    self.assertIs(is_bound_table(MUTE, STARTS, "x", "upper", (family, {**table, cell: less})), False)

    def test_other_tables_that_hold(self):
        family, table = bound_table(MUTE, STARTS, "x", "upper")
        top = {cell: (16, True) for cell in table}
        for value in ((family, top), (family, {**top, ("open", (3,)): (16, True)}), (family, {cell: (99, False) for cell in table}),
                      (family, dict(reversed(table.items())))):
            self.assertIs(is_bound_table(MUTE, STARTS, "x", "upper", value), True)
        bottom = {cell: (Ratio(-1, 2), True) for cell in table}
        self.assertIs(is_bound_table(MUTE, STARTS, "x", "lower", (family, bottom)), True)
        self.assertIs(is_bound_table(MUTE, STARTS, "x", "lower", (family, top)), False)
        self.assertIs(is_bound_table(MUTE, STARTS, "x", "upper", (family, bottom)), False)

    def test_a_finer_family(self):
        rows = {"mute": [(2, False), (4, False), (8, False), (12, False), (16, False), (16, True)],
                "open": [(Ratio(8, 3), False), (Ratio(16, 3), False), (Ratio(32, 3), False)]}
        table = {(mode, (at,)): cut for mode in rows for at, cut in enumerate(rows[mode])}
        self.assertIs(is_bound_table(MUTE, STARTS, "x", "upper", (FINER, table)), True)
        self.assertIs(is_bound_table(MUTE, STARTS, "x", "upper", (needed_cuts(MUTE), table)), False)
        table["mute", (3,)] = (10, True)
        self.assertIs(is_bound_table(MUTE, STARTS, "x", "upper", (FINER, table)), False)

    def test_a_cell_less(self):
        for side in SIDES:
            family, table = bound_table(MUTE, STARTS, "x", side)
            for cell in table:
                less = {key: table[key] for key in table if key != cell}
                self.assertIs(is_bound_table(MUTE, STARTS, "x", side, (family, less)), False)

    def test_starts_beyond_a_table(self):
        family, table = bound_table(MUTE, STARTS, "x", "upper")
        self.assertIs(is_bound_table(MUTE, [("open", {"x": stretch(0, False, Ratio(8, 3), False)})], "x", "upper", (family, table)), True)
        for start in (("open", {"x": Ratio(8, 3)}), ("open", {"x": stretch(0, False, 3, False)}), ("open", {"x": 16}), ("open", {"x": HELD.outer()})):
            self.assertIs(is_bound_table(MUTE, STARTS + [start], "x", "upper", (family, table)), False)

    def test_cells_that_are_not_come_to_must_hold_too(self):
        family, table = bound_table(MUTE, STARTS, "x", "upper")
        alone = ("open", (3,))
        for cut, wanted in (((16, True), True), ((21, True), True), ((Ratio(64, 3), False), True), ((Ratio(64, 3), True), False), ((22, False), False)):
            self.assertIs(is_bound_table(MUTE, STARTS, "x", "upper", (family, {**table, alone: cut})), wanted)

    def test_values_that_are_none(self):
        family, table = bound_table(MUTE, STARTS, "x", "upper")
        wrong = [[family, table], (family, table, table), (family,), (table, family), (None, table), (family, None), (family, list(table.items())),
                 (family, {}), ({**family, "open": {"x": []}}, table)]
        for key in (("open", (9,)), ("open", [0])[:1], "open", None, 1, ("open", (Ratio(0),))[:1], ("open", (-1,)), ("shut", (0,)), ("open", (0, 0))):
            wrong.append((family, {**table, key: (16, True)}))
        for cut in (None, 16, (16,), (16, 1), [16, True], (True, True), ("16", True), (16, True, True)):
            wrong.append((family, {**table, ("open", (0,)): cut}))
        odd = {key: table[key] for key in table if key != ("open", (1,))}
        wrong.append((family, {**odd, ("open", (True,)): table["open", (1,)]}))
        for value in wrong + list(ODD_VALUES):
            self.assertIs(is_bound_table(MUTE, STARTS, "x", "upper", value), False)

    def test_new_each_time(self):
        family, table = bound_table(MUTE, STARTS, "x", "upper")
        family.clear()
        table.clear()
        self.assertEqual(len(bound_table(MUTE, STARTS, "x", "upper")[1]), 8)


class Refused(Checks):
    CALLS = ((ends, []), (end_of, []), (end_of, [5]), (bound_table, []), (is_bound_table, [None]))

    def test_refused(self):
        for call, more in self.CALLS:
            for value in ODD_VALUES:
                self.refuses(InvalidProgram, {"value": value}, call, value, None, None, None, *more)
                self.refuses(InvalidStarts, {"position": 1}, call, MUTE, STARTS + [value, None], None, None, *more)
                if value != [1]:
                    self.refuses(InvalidStarts, {"position": None}, call, MUTE, value, None, None, *more)
                if value != "x":
                    self.refuses(UnknownLevel, {"value": value}, call, MUTE, STARTS, value, None, *more)
            for value in NO_SIDES:
                self.refuses(InvalidSide, {"value": value}, call, MUTE, STARTS, "x", value, *more)
        for value in ODD_VALUES + ("shut", 5):
            if value is not None:
                self.refuses(UnknownMode, {"value": value}, end_of, MUTE, STARTS, "x", "upper", value)

    def test_cuts(self):
        much = counter(601)
        for call, more in self.CALLS[:2] + self.CALLS[3:4]:
            self.refuses(TooMany, {"kind": "cuts", "limit": 600}, call, much, STARTS_ON, "x", "upper", *more)
        self.refuses(UnknownMode, {"value": "off"}, end_of, much, STARTS_ON, "x", "upper", "off")
        self.refuses(InvalidSide, {"value": "off"}, ends, much, STARTS_ON, "x", "off")
        family = {"on": {"x": [(number, False) for number in range(1, 602)]}}
        table = {("on", (at,)): (601, True) for at in range(602)}
        self.assertIs(is_bound_table(much, STARTS_ON, "x", "upper", (family, table)), True)
        self.same(end_of(counter(600), STARTS_ON, "x", "upper"), (Ratio(600), True))

    def test_cells(self):
        few, much = grid_of(50, 60), grid_of(50, 61)
        starts = [("on", {"x": 0, "y": 0})]
        for call in (ends, end_of, bound_table):
            self.refuses(TooMany, {"kind": "cells", "limit": 3000}, call, much, starts, "y", "upper")
        self.assertEqual(len(ends(few, starts, "y", "upper")), 3000)
        self.same(end_of(much, [("on", {"x": 1, "y": 0})], "y", "upper"), (Ratio(60), True))

    def test_a_table_that_is_far_too_small(self):
        much = grid_of(150, 150, 150)
        starts = [("on", {level: held.outer() for level, held in much.levels().items()})]
        table = {("on", (0, 0, at)): (149, True) for at in range(150)}
        self.assertIs(is_bound_table(much, starts, "x", "upper", (needed_cuts(much), table)), False)


if __name__ == "__main__":
    unittest.main()
