"""Tests of fademodes.runs: states, steps and histories [12], with MUTE [13]."""

import unittest
from fractions import Fraction
from itertools import product

from examples import HELD, ODD_VALUES, Checks, mute, ratio
from fademodes.cuts import Range
from fademodes.errors import InvalidHistory, InvalidProgram, InvalidState, TooMany, UnknownLetter
from fademodes.moves import Move
from fademodes.programs import Program, Rule
from fademodes.ratios import Ratio
from fademodes.runs import answers_of, is_state, moves_behind, run, state_behind, step

MUTE = mute()
START = ("open", {"x": 0})


def all_of_run(program, state, history):
    return list(run(program, state, history))


CALLS = (all_of_run, answers_of, state_behind, moves_behind)
NO_STATES = ODD_VALUES + (
    ("open",), ("open", {}), ("open", {"x": 17}), ("open", {"x": -1}), ("open", {"x": Ratio(161, 10)}),
    ("open", {"x": 1, "y": 1}), ("open", {"y": 1}), ("open", {"x": True}), ("open", {"x": "1"}), ("open", {"x": None}),
    ("shut", {"x": 1}), ["open", {"x": 1}], ("open", {"x": 1}, 1), ([], {"x": 1}), (None, {"x": 1}),
    ("open", [("x", 1)]), ("open", 5), ("open", None), ("open", "x"), ("open", ["x"]), ("open", {1: 1}), ({"x": 1}, "open"))


def mute_step(mode, number, letter):
    """Return what point 13 says of MUTE: mode, number, answer, position of the rule."""
    if letter == "tick" and mode == "mute":
        return ("open", number, 0) if number < 2 else ("mute", number / 2, 1)
    if letter == "tick":
        return "open", number / 2, 0
    raised = min(number + 8, Fraction(16))
    if mode == "mute":
        return "mute", raised, 0
    return ("mute", raised, 0) if number >= 4 else ("open", raised, 1)


class States(Checks):
    def test_is_state(self):
        for value in NO_STATES:
            self.assertIs(is_state(MUTE, value), False)
        for number in (0, 16, Ratio(0), Ratio(16), Ratio(1, 3)):
            self.assertIs(is_state(program=MUTE, value=("mute", {"x": number})), True)
        plain = MUTE.without_level("x")
        self.assertIs(is_state(plain, ("open", {})), True)
        self.assertIs(is_state(plain, ("open", {"x": 1})), False)

    def test_is_state_with_no_program(self):
        for value in ODD_VALUES:
            self.refuses(InvalidProgram, {"value": value}, is_state, value, None)


class Steps(Checks):
    def test_step(self):
        self.same(step(MUTE, ("open", {"x": 4}), "report"),
                  (("mute", {"x": Ratio(12)}), "mute", ("open", "report", 0)))
        self.same(step(letter="tick", state=("mute", {"x": Ratio(3, 2)}), program=MUTE),
                  (("open", {"x": Ratio(3, 2)}), "open", ("mute", "tick", 0)))
        self.same(step(MUTE, ("mute", {"x": 2}), "tick"), (("mute", {"x": Ratio(1)}), "mute", ("mute", "tick", 1)))
        self.same(step(MUTE, ("open", {"x": 16}), "tick"), (("open", {"x": Ratio(8)}), "open", ("open", "tick", 0)))
        self.same(step(MUTE, ("open", {"x": Ratio(16)}), "report")[0], ("mute", {"x": Ratio(16)}))

    def test_levels_are_sorted_and_those_not_moved_stay(self):
        program = Program({"b": HELD, "a": HELD}, {"on": {"go": [Rule("on", "yes", moves={"b": Move.adding(1, HELD)})]}})
        self.same(step(program, ("on", {"b": 1, "a": 2}), "go")[0], ("on", {"a": Ratio(2), "b": Ratio(2)}))
        self.same(state_behind(program, ("on", {"b": 1, "a": 2}), []), ("on", {"a": Ratio(2), "b": Ratio(1)}))

    def test_the_first_rule_that_applies(self):
        rules = [Rule("on", "a", when=[("x", "from", 8), ("x", "below", 12)]), Rule("on", "b", when=[("x", "above", 9)]),
                 Rule("on", "c", when=[("x", "to", 0)]), Rule("on", "d")]
        program = Program({"x": HELD}, {"on": {"go": rules}})
        found = [step(program, ("on", {"x": number}), "go")[1:] for number in (9, 12, 0, 3)]
        self.same(found, [("a", ("on", "go", 0)), ("b", ("on", "go", 1)), ("c", ("on", "go", 2)), ("d", ("on", "go", 3))])

    def test_refused(self):
        for value in ODD_VALUES:
            self.refuses(InvalidProgram, {"value": value}, step, value, None, None)
        for value in NO_STATES:
            self.refuses(InvalidState, {"value": value}, step, MUTE, value, None)
        for value in ODD_VALUES + ("open",):
            self.refuses(UnknownLetter, {"value": value}, step, MUTE, START, value)


class Histories(Checks):
    def test_mute(self):
        history = ["report", "tick", "report", "tick", "tick", "tick", "tick"]
        self.same(answers_of(MUTE, START, history), ["open", "open", "mute", "mute", "mute", "mute", "open"])
        self.same(state_behind(MUTE, START, history), ("open", {"x": Ratio(3, 2)}))
        self.same(all_of_run(MUTE, START, history[:2]),
                  [(("open", {"x": Ratio(8)}), "open", ("open", "report", 1)),
                   (("open", {"x": Ratio(4)}), "open", ("open", "tick", 0))])

    def test_mute_with_all_short_histories(self):
        for begin in (("open", Fraction(0)), ("mute", Fraction(16)), ("open", Fraction(31, 4)), ("mute", Fraction(5, 3))):
            for history in product(("report", "tick"), repeat=6):
                mode, number = begin
                wanted = []
                for letter in history:
                    place = mode, letter
                    mode, number, position = mute_step(mode, number, letter)
                    wanted.append(((mode, {"x": ratio(number)}), mode, place + (position,)))
                state = (begin[0], {"x": ratio(begin[1])})
                self.same(all_of_run(MUTE, state, history), wanted)

    def test_empty_history(self):
        self.same([all_of_run(MUTE, START, []), answers_of(MUTE, START, ())], [[], []])
        self.same(state_behind(MUTE, START, []), ("open", {"x": Ratio(0)}))
        self.assertEqual(moves_behind(MUTE, START, []), {"x": Move.staying(HELD)})

    def test_by_name(self):
        named = {"history": ["tick"], "state": ("open", {"x": 3}), "program": MUTE}
        self.same([told[1] for told in run(**named)], ["open"])
        self.same(answers_of(**named), ["open"])
        self.same(state_behind(**named), ("open", {"x": Ratio(3, 2)}))
        self.assertEqual(moves_behind(**named), {"x": Move(2, 0, 0, 8)})

    def test_three_hundred_letters(self):
        history = ["report", "tick"] * 150
        self.assertEqual(len(answers_of(MUTE, START, history)), 300)
        self.assertEqual(len(all_of_run(MUTE, START, tuple(history))), 300)
        self.assertEqual(state_behind(MUTE, START, history)[0], "mute")
        self.assertEqual(moves_behind(MUTE, START, history)["x"].divisor, 2 ** 150)
        for call in CALLS:
            self.refuses(TooMany, {"kind": "letters", "limit": 300}, call, MUTE, START, history + ["tick"])
            self.refuses(InvalidHistory, {"position": 301}, call, MUTE, START, history + ["tick", "tock"])

    def test_refused(self):
        for call in CALLS:
            for value in ODD_VALUES:
                self.refuses(InvalidProgram, {"value": value}, call, value, None, None)
            for value in NO_STATES:
                self.refuses(InvalidState, {"value": value}, call, MUTE, value, None)
            for value in ODD_VALUES:
                if value not in ([], (), [1]):
                    self.refuses(InvalidHistory, {"position": None}, call, MUTE, START, value)
            for value in ODD_VALUES + ("open",):
                self.refuses(InvalidHistory, {"position": 1}, call, MUTE, START, ["tick", value, None])

    def test_errors_at_the_first_element(self):
        with self.assertRaises(InvalidState):
            next(run(MUTE, None, []))
        with self.assertRaises(InvalidHistory):
            next(run(MUTE, START, ["tick", "tock"]))

    def test_what_is_yielded_can_be_changed(self):
        found = []
        for state, _, _ in run(MUTE, ("open", {"x": 16}), ["tick"] * 4):
            found.append(state[1]["x"])
            state[1]["x"] = None
            state[1]["y"] = 1
        self.same(found, [Ratio(8), Ratio(4), Ratio(2), Ratio(1)])

    def test_what_is_passed_can_be_changed_on_the_way(self):
        state, history = ("open", {"x": 16}), ["tick"] * 3
        found = []
        for told in run(MUTE, state, history):
            found.append(told[0][1]["x"])
            state[1]["x"] = 1
            history.append("report")
        self.same(found, [Ratio(8), Ratio(4), Ratio(2)])

    def test_arguments_are_not_changed(self):
        state, history = ("open", {"x": 4}), ["report", "tick"]
        for call in CALLS:
            call(MUTE, state, history)
        step(MUTE, state, "tick")
        self.same((state, history), (("open", {"x": 4}), ["report", "tick"]))

    def test_moves_behind(self):
        levels = {"y": Range(0, 9), "x": HELD}
        rules = [Rule("on", "a", when=[("x", "from", 5)], moves={"x": Move.dividing(3, HELD)}),
                 Rule("on", "b", moves={"x": Move.adding(4, HELD)})]
        program = Program(levels, {"on": {"go": rules}})
        found = moves_behind(program, ("on", {"x": 2, "y": 3}), ["go"] * 3)
        stay, more, less = Move.staying(HELD), Move.adding(4, HELD), Move.dividing(3, HELD)
        self.assertEqual(found, {"x": stay.then(more).then(less).then(more), "y": Move.staying(Range(0, 9))})
        self.assertEqual(list(found), ["x", "y"])
        self.same(found["x"].at(2), state_behind(program, ("on", {"x": 2, "y": 3}), ["go"] * 3)[1]["x"])


if __name__ == "__main__":
    unittest.main()
