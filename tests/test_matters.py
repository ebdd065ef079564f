"""Tests of fademodes.matters: cuts that matter [21], parts and what is idle [22]."""

import unittest

from examples import HELD, ODD_VALUES, Checks, mute
from fademodes.alike import are_alike
from fademodes.cells import cell_of, cells, state_in, stretches_of
from fademodes.cuts import Range, is_within
from fademodes.errors import InvalidCut, InvalidProgram, InvalidRules, InvalidState, TooMany, UnknownLevel, UnknownMode
from fademodes.matters import (
    alike_parts, idle_conditions, idle_levels, idle_rules, is_why_matters, mattering_cuts, why_matters)
from fademodes.moves import Move
from fademodes.needed import needed_cuts
from fademodes.programs import Program, Rule
from fademodes.ratios import Ratio
from fademodes.runs import answers_of
from samples import Chance, counter, grid_of, lights, two_levels

MUTE = mute()
START = ("open", {"x": 0})


def shy():
    """Return a program in which most of what stands in the rules has no effect.

    In `a` the level x is asked about at 4 and 8, but the answers differ only from 8 on; y is
    asked about, and never heard; the last condition of the first rule for `ask` is always true.
    """
    held = Range(0, 16)
    ask = [Rule("a", "yes", when=[("x", "from", 8), ("x", "to", 16)]), Rule("a", "no", when=[("x", "from", 4)]),
           Rule("a", "no", when=[("y", "above", 3)]), Rule("a", "no")]
    tick = [Rule("b", "no", when=[("y", "below", 9)], moves={"x": Move.dividing(2, held), "y": Move.adding(1, held)}),
            Rule("b", "no", moves={"x": Move.dividing(2, held)})]
    back = [Rule("a", "no", when=[("x", "above", 3)], moves={"x": Move.dividing(2, held)}), Rule("a", "no")]
    return Program({"x": held, "y": held}, {"a": {"ask": ask, "tick": tick}, "b": {"ask": back, "tick": back}})


def all_needed(program):
    family = needed_cuts(program)
    return [(mode, level, cut) for mode in family for level in family[mode] for cut in family[mode][level]]


def plain_matters(program, mode, level, cut):
    """Tell whether a needed cut matters: whether it parts two cells next to each other that are not alike."""
    at = list(program.levels()).index(level)
    for cell in cells(program, mode):
        if stretches_of(program, cell)[at][1] == cut:
            positions = cell[1]
            other = mode, positions[:at] + (positions[at] + 1,) + positions[at + 1:]
            if not are_alike(program, state_in(program, cell), program, state_in(program, other)):
                return True
    return False


class MatteringCuts(Checks):
    def test_mute(self):
        self.same(mattering_cuts(MUTE), needed_cuts(MUTE))
        self.same(mattering_cuts(program=MUTE)["mute"]["x"], [(Ratio(number), False) for number in (2, 4, 8, 16)])

    def test_needed_cuts_that_do_not_matter(self):
        program = shy()
        found = mattering_cuts(program)
        self.same(found["a"], {"x": [(Ratio(8), False)], "y": []})
        self.same(found["b"], {"x": [(Ratio(16), False)], "y": []})
        self.assertLess(len(found["a"]["x"]), len(needed_cuts(program)["a"]["x"]))

    def test_both_sides_of_a_number(self):
        rules = [Rule("on", "low", when=[("x", "below", 4)]), Rule("on", "mid", when=[("x", "to", 4)]), Rule("on", "high")]
        program = Program({"x": HELD}, {"on": {"go": rules}})
        self.same(mattering_cuts(program)["on"]["x"], [(Ratio(4), False), (Ratio(4), True)])
        low = program.with_rules("on", "go", [rules[0], rules[1].changed(answer="low"), rules[2]])
        self.same(mattering_cuts(low)["on"]["x"], [(Ratio(4), True)])
        high = program.with_rules("on", "go", [rules[0], rules[1].changed(answer="high"), rules[2]])
        self.same(mattering_cuts(high)["on"]["x"], [(Ratio(4), False)])
        point = program.with_rules("on", "go", [rules[0].changed(answer="high"), rules[1], rules[2]])
        self.same(mattering_cuts(point)["on"]["x"], [(Ratio(4), False), (Ratio(4), True)])

    def test_compared_with_alike_states(self):
        for program in [shy(), two_levels()] + [Chance(seed).program(1 + seed % 2) for seed in range(12)]:
            found = mattering_cuts(program)
            self.assertEqual(list(found), program.modes())
            for mode in found:
                self.assertEqual(list(found[mode]), list(program.levels()))
            rows = [row for row in all_needed(program) if plain_matters(program, *row)]
            self.assertEqual([(mode, level, cut) for mode in found for level in found[mode] for cut in found[mode][level]], rows)

    def test_without_levels(self):
        self.same(mattering_cuts(lights()), {"amber": {}, "green": {}, "red": {}})

    def test_states_that_are_not_come_to_count(self):
        self.same(mattering_cuts(counter(3))["on"]["x"], [(Ratio(number), False) for number in (1, 2, 3)])

    def test_new_each_time(self):
        mattering_cuts(MUTE)["open"]["x"].clear()
        mattering_cuts(MUTE).clear()
        self.same(mattering_cuts(MUTE), needed_cuts(MUTE))

    def test_refused(self):
        for call in (mattering_cuts, idle_levels):
            for value in ODD_VALUES:
                self.refuses(InvalidProgram, {"value": value}, call, value)


class AlikeParts(Checks):
    def test_mute(self):
        self.same(alike_parts(MUTE, START), [("open", (((Ratio(0), False), (Ratio(4), False)),))])
        self.same(alike_parts(state=("mute", {"x": 16}), program=MUTE), [("mute", (((Ratio(16), False), (Ratio(16), True)),))])

    def test_parts_in_sequence(self):
        rules = [Rule("on", "odd", when=[(name, "from", low), (name, "below", low + 2)]) for name in "xy" for low in (1, 5)]
        held = Range(0, 9)
        program = Program({"y": held, "x": held}, {"on": {"go": rules + [Rule("on", "even")]}})
        cuts = [(Ratio(number), False) for number in (0, 1, 3, 5, 7)] + [(Ratio(9), True)]
        spans = [(cuts[at], cuts[at + 1]) for at in range(5)]
        self.same(alike_parts(program, ("on", {"x": 0, "y": 8})), [("on", (spans[x], spans[y])) for x in (0, 2, 4) for y in (0, 2, 4)])
        wanted = [("on", (spans[x], spans[y])) for x in range(5) for y in range(5) if x in (1, 3) or y in (1, 3)]
        self.same(alike_parts(program, ("on", {"x": 1, "y": Ratio(1)})), wanted)

    def test_each_state_of_the_parts_and_no_other_is_alike(self):
        for program in [shy(), two_levels()] + [Chance(seed).program(1 + seed % 2) for seed in range(12)]:
            state = Chance(1).state(program)
            parts = alike_parts(program, state)
            for cell in cells(program, state[0]):
                other = state_in(program, cell)
                around = [part for part in parts if all(is_within(other[1][level], stretch) for level, stretch in zip(sorted(other[1]), part[1]))]
                self.assertEqual(len(around), are_alike(program, state, program, other))

    def test_needed_cuts_that_do_not_matter_part_nothing(self):
        self.same(alike_parts(shy(), ("a", {"x": 3, "y": 16})), [("a", (((Ratio(0), False), (Ratio(8), False)), HELD.outer()))])

    def test_without_levels(self):
        self.same(alike_parts(lights(), ("green", {})), [("green", ())])

    def test_refused(self):
        for call in (alike_parts, idle_rules, idle_conditions):
            for value in ODD_VALUES:
                self.refuses(InvalidProgram, {"value": value}, call, value, None)
            for value in ODD_VALUES + (("open", {"x": 17}), ("open", {"x": ((0, False), (1, False))})):
                self.refuses(InvalidState, {"value": value}, call, MUTE, value)


class WhyMatters(Checks):
    def test_every_cut_that_matters_has_a_reason(self):
        for program in [MUTE, shy(), two_levels()] + [Chance(seed).program(1 + seed % 2) for seed in range(12)]:
            found = mattering_cuts(program)
            for mode, level, cut in all_needed(program):
                reason = why_matters(program, mode, level, cut)
                self.assertEqual(reason is not None, cut in found[mode][level])
                if reason is not None:
                    self.check_reason(program, mode, level, cut, reason)
                    self.assertIs(is_why_matters(program, mode, level, cut, reason), True)

    def check_reason(self, program, mode, level, cut, reason):
        """Check a reason by the words of the document."""
        state, other, history = reason
        one, second = cell_of(program, state), cell_of(program, other)
        at = list(program.levels()).index(level)
        self.assertEqual((one[0], second[0]), (mode, mode))
        self.assertEqual(one[1][:at] + one[1][at + 1:], second[1][:at] + second[1][at + 1:])
        self.assertEqual((stretches_of(program, one)[at][1], stretches_of(program, second)[at][0]), (cut, cut))
        self.assertNotEqual(answers_of(program, state, history)[-1:], answers_of(program, other, history)[-1:])

    def test_mute(self):
        good = (("open", {"x": 3}), ("open", {"x": 4}), ["report"])
        self.assertIs(is_why_matters(MUTE, "open", "x", (4, False), good), True)
        self.assertIs(is_why_matters(value=good, cut=(Ratio(4), False), level="x", mode="open", program=MUTE), True)
        self.assertEqual(len(why_matters(cut=(16, False), level="x", mode="open", program=MUTE)[2]), 3)
        far = (("mute", {"x": Ratio(17, 2)}), ("mute", {"x": 16}), ("tick",) * 4)
        self.assertIs(is_why_matters(MUTE, "mute", "x", (16, False), far), True)
        # Only the last answers count, and a history can be longer than what can be run with numbers.
        late = far[:2] + (["tick"] * 4 + ["report"] + ["tick"] * 4,)
        self.assertIs(is_why_matters(MUTE, "mute", "x", (16, False), late), False)
        held = program_that_keeps()
        self.assertIs(is_why_matters(held, "on", "x", (1, False), (("on", {"x": 0}), ("on", {"x": 2}), ["go"] * 2000)), True)

    def test_cuts_that_do_not_matter(self):
        for cut in ((4, True), (2, False), (0, False), (16, True), (99, False), (5, False)):
            self.same(why_matters(MUTE, "open", "x", cut), None)
        self.same(why_matters(shy(), "a", "x", (4, False)), None)
        self.same(why_matters(shy(), "a", "y", (3, True)), None)

    def test_one_thing_otherwise(self):
        state, other, history = ("open", {"x": 3}), ("open", {"x": 4}), ["report"]
        wrong = [[state, other, history], (state, other), (state, other, history, history), (other, state, history),
                 (state, state, history), (state, ("open", {"x": 8}), history), (state, ("mute", {"x": 4}), history),
                 (("mute", {"x": 3}), ("mute", {"x": 4}), ["tick", "tick"]), (("open", {"x": 4}), ("open", {"x": 8}), ["tick", "report"]),
                 (state, other, []), (state, other, ["tick"]), (state, other, ["tock"]), (state, other, [None]), (state, other, "report"),
                 (state, other, {"report": 1}), (state, other, None), (("open", {"x": -1}), other, history), (state, ("open", {"x": True}), history),
                 (None, other, history), (state, None, history), (state, ("open", {"x": ((4, False), (8, False))}), history)]
        self.assertIs(is_why_matters(MUTE, "open", "x", (4, False), (state, other, history)), True)
        for value in wrong + list(ODD_VALUES):
            self.assertIs(is_why_matters(MUTE, "open", "x", (4, False), value), False)
        for cut in ((4, True), (3, False), (8, False), (0, False), (16, True)):
            self.assertIs(is_why_matters(MUTE, "open", "x", cut, (state, other, history)), False)
        self.assertIs(is_why_matters(MUTE, "mute", "x", (4, False), (state, other, history)), False)

    def test_the_other_levels_lie_in_the_same_stretches(self):
        go = [Rule("on", "a", when=[("x", "from", 4), ("y", "from", 2)]), Rule("on", "b")]
        program = Program({"x": HELD, "y": HELD}, {"on": {"go": go}})
        one, other = ("on", {"x": 3, "y": 2}), ("on", {"x": 4, "y": 3})
        self.assertIs(is_why_matters(program, "on", "x", (4, False), (one, other, ["go"])), True)
        self.assertIs(is_why_matters(program, "on", "x", (4, False), (("on", {"x": 3, "y": 1}), other, ["go"])), False)
        self.assertIs(is_why_matters(program, "on", "y", (2, False), (("on", {"x": 3, "y": 1}), other, ["go"])), False)
        self.assertIs(is_why_matters(program, "on", "y", (2, False), (("on", {"x": 5, "y": 1}), other, ["go"])), True)
        self.assertIs(is_why_matters(program, "on", "y", (4, False), (one, other, ["go"])), False)

    def test_new_each_time(self):
        reason = why_matters(MUTE, "open", "x", (4, False))
        reason[0][1]["x"] = None
        reason[2].clear()
        self.assertIs(is_why_matters(MUTE, "open", "x", (4, False), why_matters(MUTE, "open", "x", (4, False))), True)

    def test_refused(self):
        for call in (why_matters, lambda *args: is_why_matters(*args, None)):
            for value in ODD_VALUES:
                self.refuses(InvalidProgram, {"value": value}, call, value, None, None, None)
                self.refuses(UnknownMode, {"value": value}, call, MUTE, value, None, None)
                self.refuses(InvalidCut, {"value": value}, call, MUTE, "open", "x", value)
                if value != "x":
                    self.refuses(UnknownLevel, {"value": value}, call, MUTE, "open", value, None)
            self.refuses(InvalidCut, {"value": (4, 0)}, call, counter(601), "on", "x", (4, 0))
            self.refuses(TooMany, {"kind": "cuts", "limit": 600}, call, counter(601), "on", "x", (4, False))


def program_that_keeps():
    return Program({"x": HELD}, {"on": {"go": [Rule("on", "yes", when=[("x", "from", 1)]), Rule("on", "no")]}})


class Idle(Checks):
    def test_levels(self):
        self.same([idle_levels(MUTE), idle_levels(lights()), idle_levels(shy())], [[], [], ["y"]])
        program = Program({"z": HELD, "x": HELD, "y": HELD}, {"on": {"go": [Rule("on", "a", when=[("y", "to", 3)]), Rule("on", "b")]}})
        self.same(idle_levels(program=program), ["x", "z"])

    def test_a_level_that_matters_in_one_mode(self):
        go = [Rule("off", "a", when=[("x", "to", 3)]), Rule("on", "a")]
        program = Program({"x": HELD}, {"on": {"go": go}, "off": {"go": [Rule("on", "b", moves={"x": Move.setting(9)})]}})
        self.same(idle_levels(program), [])
        self.same(idle_levels(program.with_rules("off", "go", [Rule("on", "a")])), ["x"])

    def test_rules_and_conditions(self):
        self.same([idle_rules(MUTE, START), idle_conditions(MUTE, START)], [[], []])
        program = shy()
        state = ("a", {"x": 16, "y": 0})
        self.same(idle_rules(program, state)[:2], [("a", "ask", 1), ("a", "ask", 2)])
        self.assertNotIn(("a", "ask", 0), idle_rules(program, state))
        self.assertIn((("a", "ask", 0), 1), idle_conditions(state=state, program=program))
        self.assertNotIn((("a", "ask", 0), 0), idle_conditions(program, state))

    def test_compared_with_the_other_programs(self):
        for program in [shy(), two_levels()] + [Chance(seed).program(1 + seed % 2) for seed in range(10)]:
            state = Chance(2).state(program)
            rules, conditions = [], []
            for place in program.places():
                try:
                    other = program.without_rule(place)
                except InvalidRules:
                    other = None
                if other is not None and are_alike(program, state, other, state):
                    rules.append(place)
                for position in range(len(program.rule(place).when())):
                    if are_alike(program, state, program.without_condition(place, position), state):
                        conditions.append((place, position))
            self.same([idle_rules(program, state), idle_conditions(program, state)], [rules, conditions])

    def test_the_state_counts(self):
        go = [Rule("on", "a", when=[("x", "from", 8)]), Rule("on", "b")]
        program = Program({"x": HELD}, {"on": {"go": go}})
        self.same(idle_rules(program, ("on", {"x": 7})), [("on", "go", 0)])
        self.same(idle_conditions(program, ("on", {"x": 7})), [])
        self.same(idle_rules(program, ("on", {"x": 8})), [])
        self.same(idle_conditions(program, ("on", {"x": 8})), [(("on", "go", 0), 0)])

    def test_without_it_there_must_be_a_program(self):
        go = [Rule("on", "a", when=[("x", "from", 0)]), Rule("on", "b")]
        program = Program({"x": HELD}, {"on": {"go": go}})
        # The last rule is never taken, but without it the last one has a condition.
        self.same(idle_rules(program, ("on", {"x": 0})), [])
        self.same(idle_conditions(program, ("on", {"x": 0})), [(("on", "go", 0), 0)])
        twice = program.with_rules("on", "go", [Rule("on", "b"), Rule("on", "b")])
        self.same(idle_rules(twice, ("on", {"x": 0})), [("on", "go", 0), ("on", "go", 1)])
        self.same(idle_rules(lights(), ("green", {})), [])


class Limits(Checks):
    def test_cuts(self):
        much, state = counter(601), ("on", {"x": 0})
        for call, more in ((mattering_cuts, []), (idle_levels, []), (alike_parts, [state]), (idle_rules, [state]), (idle_conditions, [state])):
            self.refuses(TooMany, {"kind": "cuts", "limit": 600}, call, much, *more)
        self.refuses(InvalidState, {"value": None}, idle_rules, much, None)
        self.assertEqual(len(mattering_cuts(counter(600))["on"]["x"]), 600)
        self.assertEqual(len(why_matters(counter(600), "on", "x", (1, False))[2]), 600)

    def test_cells(self):
        few, much = grid_of(50, 60), grid_of(50, 61)
        state = ("on", {"x": 49, "y": 60})
        many = {"kind": "cells", "limit": 3000}
        for call, more in ((mattering_cuts, []), (idle_levels, []), (alike_parts, [state]), (why_matters, ["on", "x", (1, False)])):
            self.refuses(TooMany, many, call, much, *more)
        self.refuses(InvalidState, {"value": None}, alike_parts, much, None)
        self.same(idle_levels(few), [])
        self.same(alike_parts(few, ("on", {"x": 49, "y": 59})), [("on", (((Ratio(49), False), (Ratio(49), True)), ((Ratio(59), False), (Ratio(59), True))))])
        self.assertIs(is_why_matters(much, "on", "x", (49, False), (("on", {"x": 48, "y": 60}), state, ["ask"])), True)
        self.same([idle_rules(much, state), idle_conditions(much, state)], [[], [(("on", "ask", 0), 0), (("on", "ask", 0), 1)]])

    def test_pairs(self):
        few, much = grid_of(125, 160), grid_of(125, 161)
        state = ("on", {"x": 0, "y": 0})
        for call in (idle_rules, idle_conditions):
            self.same(call(few, state), [])
            self.refuses(TooMany, {"kind": "pairs", "limit": 20000}, call, much, state)


if __name__ == "__main__":
    unittest.main()
