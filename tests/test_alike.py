"""Tests of fademodes.alike: alike states [18], what parts them, certificates [19]."""

import unittest
from itertools import product

from examples import ODD_VALUES, Checks, mute
from fademodes.alike import alike_paper, are_alike, is_alike_paper, parting
from fademodes.cells import cell_in, cell_of, cell_step
from fademodes.cuts import Range
from fademodes.errors import InvalidProgram, InvalidState, OtherLetters, TooMany
from fademodes.joins import joined_state, side_by_side
from fademodes.machines import least_machine
from fademodes.moves import Move
from fademodes.needed import needed_cuts
from fademodes.programs import Program, Rule
from fademodes.ratios import Ratio
from fademodes.runs import answers_of, step
from samples import Chance, counter, grid_of, lights, two_levels

MUTE = mute()
START = ("open", {"x": 0})
FINER = {"mute": {"x": [(2, False), (4, False), (8, False), (12, False), (16, False)]},
         "open": {"x": [(4, False), (8, False), (12, False), (16, False)]}}


def loud():
    """Return a program that answers as MUTE does, with other modes and with all numbers three times as great."""
    held = Range(0, 48)
    half, more = {"z": Move.dividing(2, held)}, {"z": Move.adding(24, held)}
    free = {"tick": [Rule("free", "open", moves=half)],
            "report": [Rule("free", "open", when=[("z", "below", 12)], moves=more), Rule("shut", "mute", moves=more)]}
    shut = {"tick": [Rule("shut", "mute", when=[("z", "from", 6)], moves=half), Rule("free", "open")],
            "report": [Rule("shut", "mute", moves=more)]}
    return Program({"z": held}, {"free": free, "shut": shut})


def as_loud(state):
    return {"open": "free", "mute": "shut"}[state[0]], {"z": Ratio.of(state[1]["x"]) * 3}


def plain_parting(one, state, other, other_state, most):
    """Return the first of the shortest histories of at most so many letters that part two states, or None."""
    for many in range(1, most + 1):
        for history in product(one.letters(), repeat=many):
            if answers_of(one, state, history)[-1] != answers_of(other, other_state, history)[-1]:
                return list(history)
    return None


class Alike(Checks):
    def test_states_of_one_cell_and_of_others(self):
        numbers = (0, Ratio(1, 2), 1, 2, 3, 4, 5, 7, 8, 9, 15, 16)
        for mode, number, other in product(("open", "mute"), numbers, numbers):
            state, second = (mode, {"x": number}), (mode, {"x": other})
            wanted = cell_of(MUTE, state) == cell_of(MUTE, second)
            self.assertIs(are_alike(MUTE, state, MUTE, second), wanted)
            self.assertEqual(parting(MUTE, state, MUTE, second) is None, wanted)

    def test_two_programs(self):
        for mode, number in product(("open", "mute"), (0, 1, 2, Ratio(7, 3), 4, 8, 16)):
            state = (mode, {"x": number})
            self.assertIs(are_alike(MUTE, state, loud(), as_loud(state)), True)
            self.same(parting(loud(), as_loud(state), MUTE, state), None)
        self.assertIs(are_alike(MUTE, START, loud(), ("free", {"z": 12})), False)
        self.same(parting(MUTE, ("open", {"x": 8}), loud(), ("free", {"z": 13})), ["tick", "report"])

    def test_by_name(self):
        named = {"other_state": ("mute", {"x": 16}), "other": MUTE, "state": ("mute", {"x": 9}), "one": MUTE}
        self.same(parting(**named), ["tick"] * 4)
        self.assertIs(are_alike(**named), False)
        self.same(alike_paper(**named), None)
        self.assertIs(is_alike_paper(**named, value=None), False)

    def test_states_that_differ_only_in_numbers(self):
        self.same(parting(MUTE, ("open", {"x": 3}), MUTE, ("open", {"x": 4})), ["report"])
        self.same(parting(MUTE, ("open", {"x": Ratio(4)}), MUTE, ("open", {"x": 8})), ["tick", "report"])
        self.same(parting(MUTE, ("mute", {"x": Ratio(199, 100)}), MUTE, ("mute", {"x": 2})), ["tick"])

    def test_without_levels(self):
        self.assertIs(are_alike(lights(), ("green", {}), lights(), ("amber", {})), True)
        self.same(parting(lights(), ("red", {}), lights(), ("amber", {})), ["go"])

    def test_the_first_of_the_shortest(self):
        rules = {"a": {"go": [Rule("b", "no")], "stay": [Rule("c", "no")]}, "b": {"go": [Rule("b", "no")], "stay": [Rule("b", "yes")]},
                 "c": {"go": [Rule("c", "yes")], "stay": [Rule("c", "no")]},
                 "n": {"go": [Rule("n", "no")], "stay": [Rule("n", "no")]}}
        program = Program({}, rules)
        self.same(parting(program, ("a", {}), program, ("n", {})), ["go", "stay"])
        self.same(parting(program, ("n", {}), program, ("a", {})), ["go", "stay"])

    def test_compared_with_runs_of_all_short_histories(self):
        for seed in range(40):
            chance = Chance(seed)
            program = chance.program(1 + seed % 2)
            state, other = chance.state(program), chance.state(program)
            found = parting(program, state, program, other)
            wanted = plain_parting(program, state, program, other, 6)
            self.same(found if found is None or len(found) <= 6 else None, wanted)
            if found is not None:
                self.assertNotEqual(answers_of(program, state, found)[-1], answers_of(program, other, found)[-1])
                self.assertEqual(answers_of(program, state, found)[:-1], answers_of(program, other, found)[:-1])

    def test_alike_exactly_if_least_machines_are_equal(self):
        for seed in range(30):
            chance = Chance(seed)
            program = chance.program(1)
            state, other = chance.state(program), chance.state(program)
            self.assertIs(are_alike(program, state, program, other), least_machine(program, state) == least_machine(program, other))

    def test_a_joined_program(self):
        joined = side_by_side(MUTE, loud())
        states = [joined_state(state, as_loud(other)) for state, other in
                  ((START, START), (("open", {"x": 3}), START), (("open", {"x": 4}), START))]
        self.assertIs(are_alike(joined, states[0], joined, states[1]), True)
        self.same(parting(joined, states[0], joined, states[2]), ["report"])


class Refused(Checks):
    def test_programs_and_states(self):
        calls = (are_alike, parting, alike_paper, lambda *args: is_alike_paper(*args, None))
        for call in calls:
            for value in ODD_VALUES:
                self.refuses(InvalidProgram, {"value": value}, call, value, None, None, None)
                self.refuses(InvalidState, {"value": value}, call, MUTE, value, None, None)
                self.refuses(InvalidProgram, {"value": value}, call, MUTE, START, value, None)
                self.refuses(InvalidState, {"value": value}, call, MUTE, START, lights(), value)
            self.refuses(OtherLetters, {"letter": "go"}, call, MUTE, START, lights(), ("red", {}))
            self.refuses(OtherLetters, {"letter": "go"}, call, lights(), ("red", {}), MUTE, START)

    def test_cuts(self):
        much, state = counter(601), ("on", {"x": 601})
        few = counter(1)
        many = {"kind": "cuts", "limit": 600}
        for call in (are_alike, parting, alike_paper):
            self.refuses(TooMany, many, call, much, state, few, ("on", {"x": 1}))
            self.refuses(TooMany, many, call, few, ("on", {"x": 1}), much, state)
            self.refuses(InvalidState, {"value": None}, call, much, state, few, None)
            self.refuses(OtherLetters, {"letter": "ask"}, call, much, state, MUTE, START)
        self.assertIs(is_alike_paper(much, state, few, ("on", {"x": 1}), None), False)
        self.assertIs(are_alike(counter(600), ("on", {"x": 600}), counter(600), ("on", {"x": 600})), True)

    def test_pairs(self):
        many = {"kind": "pairs", "limit": 20000}
        whole = grid_of(125, 160)
        self.assertIs(are_alike(whole, ("on", {"x": 0, "y": 0}), whole, ("on", {"x": 0, "y": 0})), True)
        self.assertEqual(len(alike_paper(whole, ("on", {"x": 0, "y": 0}), whole, ("on", {"x": 0, "y": 0}))[2]), 20000)
        much = grid_of(125, 161)
        for call in (are_alike, parting, alike_paper):
            self.refuses(TooMany, many, call, much, ("on", {"x": 0, "y": 0}), much, ("on", {"x": 0, "y": 0}))
        self.assertIs(are_alike(much, ("on", {"x": 1, "y": 0}), much, ("on", {"x": 1, "y": 0})), True)

    def test_pairs_are_counted_behind_other_answers_too(self):
        one = grid_of(125, 161)
        two = one.with_rules("on", "ask", [Rule("on", "maybe")])
        self.refuses(TooMany, {"kind": "pairs", "limit": 20000}, parting, one, ("on", {"x": 0, "y": 0}), two, ("on", {"x": 0, "y": 0}))
        self.same(parting(one, ("on", {"x": 1, "y": 1}), two, ("on", {"x": 1, "y": 1})), ["ask"])


class Papers(Checks):
    def check_paper(self, one, state, other, other_state, paper):
        """Check a certificate by the words of the document, with the needed cuts."""
        self.assertIs(type(paper), tuple)
        self.assertEqual(paper[:2], (needed_cuts(one), needed_cuts(other)))
        pairs = paper[2]
        self.assertIn((cell_of(one, state), cell_of(other, other_state)), pairs)
        for cell, second in pairs:
            for letter in one.letters():
                led, answer, _ = cell_step(one, cell, letter)
                other_led, other_answer, _ = cell_step(other, second, letter)
                self.assertEqual(answer, other_answer)
                self.assertIn((led, other_led), pairs)

    def test_papers_that_hold(self):
        for one, state, other, other_state in (
                (MUTE, START, loud(), as_loud(START)), (MUTE, ("mute", {"x": 5}), MUTE, ("mute", {"x": 7})),
                (lights(), ("green", {}), lights(), ("amber", {})), (two_levels(), ("on", {"x": 1, "y": 1}), two_levels(), ("on", {"x": 1, "y": 1}))):
            paper = alike_paper(one, state, other, other_state)
            self.check_paper(one, state, other, other_state, paper)
            self.assertIs(is_alike_paper(one, state, other, other_state, paper), True)
            family, other_family, pairs = paper
            for good in ((family, other_family, tuple(pairs)), (family, other_family, pairs[::-1]), (family, other_family, pairs * 2)):
                self.assertIs(is_alike_paper(one, state, other, other_state, good), True)

    def test_none_if_they_are_not_alike(self):
        self.same(alike_paper(MUTE, START, MUTE, ("open", {"x": 4})), None)

    def test_other_states(self):
        paper = alike_paper(MUTE, START, loud(), as_loud(START))
        self.assertIs(is_alike_paper(MUTE, ("open", {"x": 3}), loud(), ("free", {"z": 11}), paper), True)
        self.assertIs(is_alike_paper(MUTE, ("mute", {"x": 3}), loud(), ("shut", {"z": 9}), paper), True)
        self.assertIs(is_alike_paper(MUTE, ("open", {"x": 4}), loud(), ("free", {"z": 11}), paper), False)
        self.assertIs(is_alike_paper(loud(), as_loud(START), MUTE, START, paper), False)

    def test_a_pair_less(self):
        paper = alike_paper(MUTE, START, loud(), as_loud(START))
        for at in range(len(paper[2])):
            pairs = paper[2][:at] + paper[2][at + 1:]
            self.assertIs(is_alike_paper(MUTE, START, loud(), as_loud(START), paper[:2] + (pairs,)), False)

    def test_answers_that_differ(self):
        one, other = lights(), lights().with_rules("green", "go", [Rule("amber", "run")])
        family = needed_cuts(one)
        pairs = [((mode, ()), (mode, ())) for mode in one.modes()]
        for state, wanted in ((("red", {}), False), (("amber", {}), False)):
            self.assertIs(is_alike_paper(one, state, one, state, (family, family, pairs)), True)
            self.assertIs(is_alike_paper(one, state, other, state, (family, family, pairs)), wanted)

    def test_more_pairs(self):
        family, other_family, pairs = alike_paper(MUTE, START, loud(), as_loud(START))
        unlike = (("open", (0,)), ("free", (1,)))
        self.assertIs(is_alike_paper(MUTE, START, loud(), as_loud(START), (family, other_family, pairs + [unlike])), False)
        alone = (("open", (3,)), ("free", (3,)))
        self.assertNotIn(alone, pairs)
        self.assertIs(is_alike_paper(MUTE, START, loud(), as_loud(START), (family, other_family, pairs + [alone])), True)

    def test_a_finer_family(self):
        pairs = [(("open", (0,)), ("open", (0,)))]
        for pair in pairs:
            for letter in ("report", "tick"):
                state = {"open": [0, 4, 8, 12, 16], "mute": [0, 2, 4, 8, 12, 16]}[pair[0][0]][pair[0][1][0]]
                led = self.led((pair[0][0], {"x": state}), letter)
                if (led, cell_step(MUTE, pair[1], letter)[0]) not in pairs:
                    pairs.append((led, cell_step(MUTE, pair[1], letter)[0]))
        self.assertGreater(len(pairs), 8)
        self.assertIs(is_alike_paper(MUTE, START, MUTE, START, (FINER, needed_cuts(MUTE), pairs)), True)
        self.assertIs(is_alike_paper(MUTE, START, MUTE, START, (needed_cuts(MUTE), needed_cuts(MUTE), pairs)), False)
        self.assertIs(is_alike_paper(MUTE, START, MUTE, START, (needed_cuts(MUTE), FINER, pairs)), False)

    def led(self, state, letter):
        """Return the cell of FINER to which a letter leads a state."""
        return cell_in(MUTE, FINER, step(MUTE, state, letter)[0])

    def test_a_family_that_is_not_closed(self):
        family, other_family, pairs = alike_paper(MUTE, START, loud(), as_loud(START))
        for value in ODD_VALUES + (other_family, {"open": family["open"]}, {**family, "open": {"x": family["open"]["x"][1:]}}):
            self.assertIs(is_alike_paper(MUTE, START, loud(), as_loud(START), (value, other_family, pairs)), False)
        for value in ODD_VALUES + (family, {"free": other_family["free"]}):
            self.assertIs(is_alike_paper(MUTE, START, loud(), as_loud(START), (family, value, pairs)), False)

    def test_other_values(self):
        family, other_family, pairs = alike_paper(MUTE, START, loud(), as_loud(START))
        good = pairs[0]
        wrong = [[family, other_family, pairs], (family, other_family), (family, other_family, pairs, pairs),
                 (family, other_family, dict(pairs)), (family, other_family, []), (family, other_family, None)]
        wrong += [(family, other_family, pairs + [value]) for value in ODD_VALUES + (
            good[:1], good + good[:1], list(good), good[::-1], (("open", (4,)), good[1]), (("open", (False,)), ("free", (0,))),
            (("open", [0]), good[1]), (good[0], ("free", (9,))), (good[0], None), (("open",), good[1]), ((0,), (0,)))]
        for value in wrong + list(ODD_VALUES):
            self.assertIs(is_alike_paper(MUTE, START, loud(), as_loud(START), value), False)

    def test_new_each_time(self):
        paper = alike_paper(MUTE, START, loud(), as_loud(START))
        paper[0]["open"]["x"].clear()
        paper[2].clear()
        self.assertIs(is_alike_paper(MUTE, START, loud(), as_loud(START), alike_paper(MUTE, START, loud(), as_loud(START))), True)

    def test_no_limit_for_the_judge(self):
        much = counter(601)
        family = {"on": {"x": [(number, False) for number in range(1, 602)]}}
        pairs = [(("on", (at,)), ("on", (at,))) for at in range(602)]
        self.assertIs(is_alike_paper(much, ("on", {"x": 0}), much, ("on", {"x": 0}), (family, family, pairs)), True)
        self.assertIs(is_alike_paper(much, ("on", {"x": 0}), much, ("on", {"x": 0}), (family, family, pairs[:-1])), False)


if __name__ == "__main__":
    unittest.main()
