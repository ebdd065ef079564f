"""Tests of fademodes.cells: cells [16], their marks [7], starts and what is come to [17]."""

import unittest
from fractions import Fraction

from examples import ODD_VALUES, Checks, fraction, mute, ratio
from fademodes.cells import (
    cell_in, cell_of, cell_step, cells, cells_met, come_to, is_cell, state_in, stretches_in, stretches_of)
from fademodes.cuts import is_within
from fademodes.errors import (
    InvalidCell, InvalidPaper, InvalidProgram, InvalidStarts, InvalidState, TooMany, UnknownLetter, UnknownMode)
from fademodes.joins import side_by_side
from fademodes.needed import needed_cuts
from fademodes.programs import Program, Rule
from fademodes.ratios import Ratio
from fademodes.runs import state_behind, step
from samples import (
    Chance, counter, grid_of, lights, plain_cell, plain_cut, plain_needed, plain_outer, plain_state, plain_step, ratio_state,
    two_levels)

MUTE = mute()
FINER = {"mute": {"x": [(2, False), (4, False), (8, False), (12, False), (16, False)]},
         "open": {"x": [(4, False), (8, False), (12, False), (Ratio(16), False)]}}
NO_CELLS = ODD_VALUES + (("open",), ("open", (4,)), ("open", (-1,)), ("open", ()), ("open", (0, 0)), ("open", [0]),
                         ["open", (0,)], ("shut", (0,)), ("open", (True,)), ("open", (False,)), ("open", (None,)),
                         ("open", ("0",)), ("open", (Ratio(0),)), ("open", 0), ("open", None), (None, (0,)), ([], (0,)),
                         ("open", (0,), 0), ("open", ((0,),)))
NO_STARTS = ODD_VALUES + (
    ("open",), ("open", {}), ("open", {"x": 17}), ("open", {"x": -1}), ("open", {"x": True}), ("open", {"x": None}),
    ("open", {"y": 1}), ("open", {"x": 1, "y": 1}), ("shut", {"x": 1}), ["open", {"x": 1}], ("open", {"x": 1}, 1),
    ("open", {"x": ((0, False), (17, False))}), ("open", {"x": ((-1, True), (3, False))}), ("open", {"x": (1, 3)}),
    ("open", {"x": ((3, False), (3, False))}), ("open", {"x": ((4, False), (3, False))}), ("open", {"x": (3, False)}),
    ("open", {"x": [(0, False), (3, False)]}), ("open", {"x": ((0, False), (16, True), (16, True))}),
    ("open", {"x": ((0, False), (16, 1))}), ("open", [("x", 1)]), ([], {"x": 1}), (None, {"x": 1}),
    ("open", ["x"]), ("open", "x"), ("open", 1), ("open", None))


def every(program, mode=None):
    return list(cells(program, mode))


def every_come_to(program, starts):
    return list(come_to(program, starts))


class OneCell(Checks):
    def test_states_on_cuts_between_them_and_at_the_ends(self):
        for number, wanted in ((0, 0), (Ratio(39, 10), 0), (4, 1), (5, 1), (Ratio(799, 100), 1), (8, 2), (Ratio(47, 3), 2), (16, 3)):
            self.same(cell_of(MUTE, ("open", {"x": number})), ("open", (wanted,)))
        for number, wanted in ((Ratio(0), 0), (2, 1), (Ratio(4), 2), (9, 3), (16, 4)):
            self.same(cell_of(state=("mute", {"x": number}), program=MUTE), ("mute", (wanted,)))

    def test_cuts_just_above(self):
        rules = [Rule("on", "a", when=[("x", "above", 4), ("x", "to", 6)]), Rule("on", "b", when=[("x", "from", 6)]), Rule("on", "c")]
        program = Program(counter(9).levels(), {"on": {"go": rules}})
        found = [cell_of(program, ("on", {"x": number}))[1] for number in (4, Ratio(41, 10), Ratio(59, 10), 6, Ratio(61, 10))]
        self.same(found, [(0,), (1,), (1,), (2,), (3,)])
        self.same(state_in(program, ("on", (2,))), ("on", {"x": Ratio(6)}))

    def test_without_levels(self):
        program = lights()
        self.same(cell_of(program, ("red", {})), ("red", ()))
        self.same(every(program), [("amber", ()), ("green", ()), ("red", ())])
        self.same(stretches_of(program, ("red", ())), ())
        self.same(state_in(program, ("red", ())), ("red", {}))
        self.same(cell_step(program, ("red", ()), "go"), (("green", ()), "stop", ("red", "go", 0)))
        self.same(every_come_to(program, [("green", {})]),
                  [(("green", ()), []), (("amber", ()), ["go"]), (("red", ()), ["halt"])])
        self.same([is_cell(program, ("red", ())), is_cell(program, ("red", (0,)))], [True, False])

    def test_levels_in_sorted_sequence(self):
        program, needed = two_levels(), plain_needed(two_levels())
        chance = Chance(5)
        for _ in range(200):
            state = chance.state(program)
            self.same(cell_of(program, state), plain_cell(program, needed, plain_state(state)))

    def test_all_cells_sorted(self):
        self.same(every(MUTE), [("mute", (at,)) for at in range(5)] + [("open", (at,)) for at in range(4)])
        self.same(every(MUTE, "open"), [("open", (at,)) for at in range(4)])
        self.same(list(cells(mode="mute", program=MUTE)), [("mute", (at,)) for at in range(5)])
        program, needed = two_levels(), plain_needed(two_levels())
        for mode in program.modes():
            rows = [(mode, (x, y)) for x in range(len(needed[mode, "x"]) + 1) for y in range(len(needed[mode, "y"]) + 1)]
            self.same(every(program, mode), rows)
        self.same(every(program), sorted(every(program)))
        self.same(every(program), every(program, "off") + every(program, "on"))

    def test_is_cell(self):
        for value in NO_CELLS:
            self.assertIs(is_cell(MUTE, value), False)
        for cell in every(MUTE):
            self.assertIs(is_cell(value=cell, program=MUTE), True)
        self.assertIs(is_cell(MUTE, ("mute", (4,))), True)

    def test_stretches(self):
        self.same(stretches_of(MUTE, ("open", (0,))), (((Ratio(0), False), (Ratio(4), False)),))
        self.same(stretches_of(MUTE, ("open", (3,))), (((Ratio(16), False), (Ratio(16), True)),))
        self.same(stretches_of(cell=("mute", (1,)), program=MUTE), (((Ratio(2), False), (Ratio(4), False)),))

    def test_marks(self):
        self.same(state_in(MUTE, ("open", (2,))), ("open", {"x": Ratio(8)}))
        program = two_levels()
        for cell in every(program):
            state = state_in(program=program, cell=cell)
            self.same(cell_of(program, state), cell)
            self.assertEqual(list(state[1]), ["x", "y"])
            for level, stretch in zip("xy", stretches_of(program, cell)):
                self.assertTrue(is_within(state[1][level], stretch))
        state = state_in(MUTE, ("open", (1,)))
        state[1]["x"] = None
        self.same(state_in(MUTE, ("open", (1,))), ("open", {"x": Ratio(4)}))

    def test_marks_of_each_kind(self):
        rules = [Rule("on", "a", when=[("x", "above", 2), ("x", "below", 5), ("x", "to", 7)]), Rule("on", "b")]
        program = Program(counter(9).levels(), {"on": {"go": rules}})
        found = [state_in(program, ("on", (at,)))[1]["x"] for at in range(4)]
        self.same(found, [Ratio(0), Ratio(7, 2), Ratio(5), Ratio(9)])

    def test_a_letter_leads_all_states_of_a_cell_to_one_cell(self):
        for program in (MUTE, two_levels(), counter(7), lights()):
            needed = plain_needed(program)
            for cell in every(program):
                for letter in program.letters():
                    led = cell_step(program, cell, letter)
                    for state in self.states_of(program, cell):
                        behind, answer, place = plain_step(program, state, letter)
                        self.same(led, (plain_cell(program, needed, behind), answer, place))
                        self.same(step(program, ratio_state(state), letter)[1:], led[1:])

    def states_of(self, program, cell):
        """Return several states of a cell, with Fractions: at the ends of its stretches, if they are in, and between."""
        found = [{}]
        for level, stretch in zip(program.levels(), stretches_of(program, cell)):
            low, high = plain_cut(stretch[0]), plain_cut(stretch[1])
            parts = [low[0] + (high[0] - low[0]) * Fraction(part, 100) for part in (0, 1, 40, 99, 100)]
            parts = [part for part in parts if is_within(ratio(part), stretch)]
            found = [{**row, level: part} for row in found for part in parts]
        return [(cell[0], row) for row in found]

    def test_refused(self):
        for call, more in ((cell_of, [None]), (every, [5]), (is_cell, [None]), (stretches_of, [None]), (state_in, [None]),
                           (cell_step, [None, None]), (cell_in, [None, None]), (stretches_in, [None, None])):
            for value in ODD_VALUES:
                self.refuses(InvalidProgram, {"value": value}, call, value, *more)
        for value in ODD_VALUES + (("open", {"x": 17}), ("open", {"x": ((0, False), (4, False))})):
            self.refuses(InvalidState, {"value": value}, cell_of, MUTE, value)
        for value in ODD_VALUES + ("shut",):
            if value is not None:
                self.refuses(UnknownMode, {"value": value}, every, MUTE, value)
        for value in NO_CELLS:
            self.refuses(InvalidCell, {"value": value}, stretches_of, MUTE, value)
            self.refuses(InvalidCell, {"value": value}, state_in, MUTE, value)
            self.refuses(InvalidCell, {"value": value}, cell_step, MUTE, value, None)
        for value in ODD_VALUES + ("open",):
            self.refuses(UnknownLetter, {"value": value}, cell_step, MUTE, ("open", (0,)), value)

    def test_a_joined_program(self):
        joined = side_by_side(MUTE, lights_of_mute())
        self.same(cell_of(joined, ("open.a", {"x": 5})), ("open.a", (1,)))
        self.same(len(every(joined)), 18)


def lights_of_mute():
    """Return a program without levels that has the letters of MUTE."""
    return Program({}, {"a": {"report": [Rule("b", "one")], "tick": [Rule("a", "one")]},
                        "b": {"report": [Rule("a", "two")], "tick": [Rule("b", "two")]}})


class CellsOfFamilies(Checks):
    def test_needed_cuts_as_the_family(self):
        for program in (MUTE, two_levels(), lights()):
            family = needed_cuts(program)
            for cell in every(program):
                self.same(cell_in(program, family, state_in(program, cell)), cell)
                self.same(stretches_in(program, family, cell), stretches_of(program, cell))

    def test_a_finer_family(self):
        self.same(cell_in(MUTE, FINER, ("open", {"x": 12})), ("open", (3,)))
        self.same(cell_in(state=("open", {"x": 11}), family=FINER, program=MUTE), ("open", (2,)))
        self.same(cell_in(MUTE, FINER, ("mute", {"x": 16})), ("mute", (5,)))
        self.same(stretches_in(MUTE, FINER, ("open", (4,))), (((Ratio(16), False), (Ratio(16), True)),))
        self.same(stretches_in(cell=("open", (2,)), family=FINER, program=MUTE), (((Ratio(8), False), (Ratio(12), False)),))

    def test_refused(self):
        wrong = needed_cuts(MUTE)
        del wrong["open"]["x"][1]
        for value in ODD_VALUES + (wrong,):
            self.refuses(InvalidPaper, {"value": value}, cell_in, MUTE, value, None)
            self.refuses(InvalidPaper, {"value": value}, stretches_in, MUTE, value, None)
        for value in ODD_VALUES:
            self.refuses(InvalidState, {"value": value}, cell_in, MUTE, FINER, value)
        for value in ODD_VALUES + (("open", (5,)), ("mute", (6,)), ("open", (True,)), ("open", ())):
            self.refuses(InvalidCell, {"value": value}, stretches_in, MUTE, FINER, value)

    def test_no_limit(self):
        family = {"on": {"x": [(number, False) for number in range(1, 602)]}}
        self.same(cell_in(counter(601), family, ("on", {"x": 601})), ("on", (601,)))
        self.same(stretches_in(counter(601), family, ("on", (0,))), (((Ratio(0), False), (Ratio(1), False)),))


def stretch(low, low_is_above, high, high_is_above):
    return (low, low_is_above), (high, high_is_above)


class Starts(Checks):
    def test_cells_met_by_numbers(self):
        self.same(cells_met(MUTE, [("open", {"x": 5}), ("mute", {"x": Ratio(1)}), ("open", {"x": 4})]),
                  [("mute", (0,)), ("open", (1,))])

    def test_cells_met_by_stretches(self):
        for found, wanted in ((stretch(0, False, 16, True), [0, 1, 2, 3]), (stretch(4, False, 8, False), [1]),
                              (stretch(4, False, 8, True), [1, 2]), (stretch(3, True, 4, False), [0]),
                              (stretch(3, True, 4, True), [0, 1]), (stretch(4, True, 5, False), [1]),
                              (stretch(8, True, 16, False), [2]), (stretch(8, True, 16, True), [2, 3]),
                              (stretch(16, False, 16, True), [3]), (stretch(Ratio(15, 2), False, Ratio(17, 2), False), [1, 2])):
            self.same(cells_met(starts=[("open", {"x": found})], program=MUTE), [("open", (at,)) for at in wanted])

    def test_several_levels(self):
        program, needed = two_levels(), plain_needed(two_levels())
        start = ("on", {"y": stretch(-2, True, 1, False), "x": stretch(Ratio(7, 2), False, 10, True)})
        outer = [plain_outer(held) for held in program.levels().values()]
        rows = []
        for level, (first, last) in zip("xy", outer):
            cuts = [first] + needed["on", level] + [last]
            low, high = plain_cut(start[1][level][0]), plain_cut(start[1][level][1])
            rows.append([at for at in range(len(cuts) - 1) if max(low, cuts[at]) < min(high, cuts[at + 1])])
        self.same(cells_met(program, (start,)), [("on", (x, y)) for x in rows[0] for y in rows[1]])

    def test_come_to_mute(self):
        self.same(every_come_to(MUTE, [("open", {"x": 0})]), [
            (("open", (0,)), []), (("open", (2,)), ["report"]), (("mute", (4,)), ["report", "report"]),
            (("open", (1,)), ["report", "tick"]), (("mute", (3,)), ["report", "report", "tick"]),
            (("mute", (2,)), ["report", "report", "tick", "tick"]),
            (("mute", (1,)), ["report", "report", "tick", "tick", "tick"]),
            (("mute", (0,)), ["report", "report", "tick", "tick", "tick", "tick"])])

    def test_come_to_goes_in_sequence(self):
        chance = Chance(11)
        for program in (MUTE, two_levels(), counter(9), lights()):
            starts = [chance.start(program) for _ in range(3)]
            found = list(come_to(starts=starts, program=program))
            wanted = [(cell, []) for cell in cells_met(program, starts)]
            for cell, history in wanted:
                for letter in program.letters():
                    led = cell_step(program, cell, letter)[0]
                    if led not in [row[0] for row in wanted]:
                        wanted.append((led, history + [letter]))
            self.same(found, wanted)

    def test_what_runs_come_to_is_come_to(self):
        starts = [("open", {"x": stretch(0, True, 4, False)})]
        found = [row[0] for row in come_to(MUTE, starts)]
        for history in (["report"] * 3, ["report", "tick"] * 5, ["tick"] * 4, ["report", "report"] + ["tick"] * 9):
            for number in (Ratio(1, 9), 1, Ratio(39, 10)):
                self.assertIn(cell_of(MUTE, state_behind(MUTE, ("open", {"x": number}), history)), found)

    def test_new_each_time(self):
        found = []
        for row in come_to(MUTE, [("open", {"x": 0})]):
            found.append(list(row[1]))
            row[1].append("tock")
        self.same(found, [row[1] for row in come_to(MUTE, [("open", {"x": 0})])])
        cells_met(MUTE, [("open", {"x": 0})]).append(1)
        self.same(cells_met(MUTE, [("open", {"x": 0})]), [("open", (0,))])

    def test_refused(self):
        good = ("open", {"x": stretch(0, False, 16, True)})
        for call in (cells_met, every_come_to):
            for value in ODD_VALUES:
                self.refuses(InvalidProgram, {"value": value}, call, value, None)
            for value in ODD_VALUES:
                if value != [1]:
                    self.refuses(InvalidStarts, {"position": None}, call, MUTE, value)
            for value in NO_STARTS:
                self.refuses(InvalidStarts, {"position": 0}, call, MUTE, [value])
                self.refuses(InvalidStarts, {"position": 2}, call, MUTE, (good, good, value, None))

    def test_arguments_are_not_changed(self):
        starts = [("open", {"x": stretch(0, False, 16, True)}), ("mute", {"x": 3})]
        before = repr(starts)
        cells_met(MUTE, starts)
        every_come_to(MUTE, starts)
        self.assertEqual(repr(starts), before)

    def test_fractions_agree(self):
        self.assertEqual(fraction(state_in(MUTE, ("open", (2,)))[1]["x"]), Fraction(8))


class Limits(Checks):
    def test_too_many_cuts_come_first(self):
        many = {"kind": "cuts", "limit": 600}
        much = counter(601)
        for call, more in ((cell_of, [("on", {"x": 0})]), (every, []), (every, ["on"]), (is_cell, [None]), (stretches_of, [None]),
                           (state_in, [None]), (cell_step, [None, None]), (cells_met, [[("on", {"x": 0})]]),
                           (every_come_to, [[("on", {"x": 0})]])):
            self.refuses(TooMany, many, call, much, *more)
        self.refuses(InvalidState, {"value": None}, cell_of, much, None)
        self.refuses(UnknownMode, {"value": "off"}, every, much, "off")
        self.refuses(InvalidStarts, {"position": None}, cells_met, much, [])
        self.refuses(InvalidStarts, {"position": 0}, every_come_to, much, [None])
        self.refuses(InvalidPaper, {"value": None}, cell_in, much, None, None)

    def test_six_hundred_cuts(self):
        program = counter(600)
        self.same(cell_of(program, ("on", {"x": 600})), ("on", (600,)))
        self.same(cell_step(program, ("on", (599,)), "up"), (("on", (600,)), "no", ("on", "up", 0)))
        self.assertEqual(len(every_come_to(program, [("on", {"x": 0})])), 601)

    def test_three_thousand_cells(self):
        program, much = grid_of(50, 60), grid_of(50, 61)
        whole = {level: held.outer() for level, held in program.levels().items()}
        whole_much = {level: held.outer() for level, held in much.levels().items()}
        many = {"kind": "cells", "limit": 3000}
        self.assertEqual(len(every(program)), 3000)
        self.assertEqual(len(every(program, "on")), 3000)
        self.refuses(TooMany, many, every, much)
        self.refuses(TooMany, many, every, much, "on")
        self.assertEqual(len(cells_met(program, [("on", whole)])), 3000)
        self.refuses(TooMany, many, cells_met, much, [("on", whole_much)])
        self.assertEqual(cells_met(much, [("on", {"x": 0, "y": 0})]), [("on", (0, 0))])
        found = every_come_to(program, [("on", {"x": 0, "y": 0})])
        self.assertEqual((len(found), found[-1]), (3000, (("on", (49, 59)), ["upx"] * 49 + ["upy"] * 59)))
        self.refuses(TooMany, many, every_come_to, much, [("on", {"x": 0, "y": 0})])
        self.assertEqual(len(every_come_to(much, [("on", {"x": 1, "y": 0})])), 49 * 61)

    def test_several_starts_together(self):
        much = grid_of(50, 61)
        starts = [("on", {"x": at, "y": stretch(0, False, 60, True)}) for at in range(50)]
        self.assertEqual(len(cells_met(much, starts[:49])), 49 * 61)
        self.refuses(TooMany, {"kind": "cells", "limit": 3000}, cells_met, much, starts)
        self.assertEqual(len(cells_met(much, starts[:49] * 2)), 49 * 61)

    def test_modes_have_their_own_limit(self):
        program = grid_of(50, 40)
        levels, rules = program.levels(), {letter: program.rules("on", letter) for letter in program.letters()}
        again = {letter: [rule.changed(goal="off") for rule in rules[letter]] for letter in rules}
        both = Program(levels, {"on": rules, "off": again})
        self.assertEqual([len(every(both, "on")), len(every(both, "off"))], [2000, 2000])
        self.refuses(TooMany, {"kind": "cells", "limit": 3000}, every, both)
        self.assertEqual(next(cells(both, "on")), ("on", (0, 0)))

    def test_cells_beyond_the_limit_can_be_asked_for_one_by_one(self):
        much = grid_of(150, 150, 150)
        self.same(cell_of(much, ("on", {"x": 149, "y": 3, "z": 0})), ("on", (149, 3, 0)))
        self.same(cell_step(much, ("on", (148, 149, 149)), "upx"), (("on", (149, 149, 149)), "no", ("on", "upx", 0)))
        self.refuses(TooMany, {"kind": "cells", "limit": 3000}, cells_met, much,
                     [("on", {level: held.outer() for level, held in much.levels().items()})])


if __name__ == "__main__":
    unittest.main()
