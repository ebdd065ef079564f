"""Tests of the conventions [2] over all files: names of parameters, tuples for lists, results that are new and equal when asked again."""

import copy
import inspect
import re
import unittest

from examples import HELD, Checks, mute
from fademodes import (
    alike, cells, courses, cuts, desk, ends, forgetting, hands, joins, judge, machines, matters, moves, needed, prices, programs, ratios,
    reaching, runs, slack, texts, watching)
from fademodes.cuts import Range
from fademodes.moves import Move
from fademodes.programs import Program, Rule
from fademodes.ratios import Ratio

MUTE = mute()
START = ("open", {"x": 0})
STARTS = [START, ("mute", {"x": ((1, False), (3, True))})]
PLACE = ("open", "report", 0)
FAMILY = needed.needed_cuts(MUTE)
CELL = ("open", (0,))
CUT = (8, False)
OTHER = Program({"y": Range(0, 4)}, {"on": {letter: [Rule("on", "yes", when=[("y", "above", 1)]), Rule("on", "no", moves={"y": Move.adding(1, Range(0, 4))})]
                                            for letter in ("report", "tick")}})
EARS = Program({}, {"calm": {answer: [Rule("calm", answer)] for answer in ("open", "mute")}})
CLAIM = ("beyond", MUTE, STARTS, "x", "upper", (15, True))
SAFE = {"program": MUTE, "hand": ["open"], "bad": ["mute"]}
BEGUN = {"program": MUTE, "starts": STARTS}
LEVEL = {**BEGUN, "level": "x", "side": "upper"}
PAIR = {"one": MUTE, "state": START, "other": MUTE, "other_state": ("open", {"x": 3})}
AT_CUT = {"program": MUTE, "mode": "open", "level": "x", "cut": CUT}
RUN = {"program": MUTE, "state": START, "history": ["report", "tick"]}

# Tuples (module, function, arguments by the names in the interface).
CALLS = (
    (ratios, "is_number", {"value": 3}), (cuts, "is_cut", {"value": CUT}), (cuts, "is_stretch", {"value": HELD.outer()}),
    (cuts, "is_above", {"number": 8, "cut": CUT}), (cuts, "is_ahead", {"one": CUT, "other": (9, True)}), (cuts, "is_within", {"number": 8, "stretch": HELD.outer()}),
    (cuts, "mark_of", {"stretch": HELD.outer()}),
    (runs, "is_state", {"program": MUTE, "value": START}), (runs, "step", {"program": MUTE, "state": START, "letter": "tick"}), (runs, "run", RUN),
    (runs, "answers_of", RUN), (runs, "state_behind", RUN), (runs, "moves_behind", RUN),
    (needed, "needed_cuts", {"program": MUTE}), (needed, "is_closed", {"program": MUTE, "family": FAMILY}), (needed, "why_needed", AT_CUT),
    (needed, "is_why_needed", {**AT_CUT, "value": needed.why_needed(**AT_CUT)}),
    (cells, "cell_of", {"program": MUTE, "state": START}), (cells, "cells", {"program": MUTE, "mode": "open"}), (cells, "is_cell", {"program": MUTE, "value": CELL}),
    (cells, "stretches_of", {"program": MUTE, "cell": CELL}), (cells, "cell_step", {"program": MUTE, "cell": CELL, "letter": "tick"}),
    (cells, "state_in", {"program": MUTE, "cell": CELL}), (cells, "cell_in", {"program": MUTE, "family": FAMILY, "state": START}),
    (cells, "stretches_in", {"program": MUTE, "family": FAMILY, "cell": CELL}), (cells, "cells_met", BEGUN), (cells, "come_to", BEGUN),
    (alike, "are_alike", PAIR), (alike, "parting", {**PAIR, "other_state": ("open", {"x": 5})}), (alike, "alike_paper", PAIR),
    (alike, "is_alike_paper", {**PAIR, "value": alike.alike_paper(**PAIR)}),
    (machines, "least_machine", {"program": MUTE, "state": START}),
    (matters, "mattering_cuts", {"program": MUTE}), (matters, "alike_parts", {"program": MUTE, "state": START}), (matters, "why_matters", AT_CUT),
    (matters, "is_why_matters", {**AT_CUT, "value": matters.why_matters(**AT_CUT)}), (matters, "idle_levels", {"program": MUTE}),
    (matters, "idle_rules", {"program": MUTE, "state": START}), (matters, "idle_conditions", {"program": MUTE, "state": START}),
    (ends, "ends", LEVEL), (ends, "end_of", {**LEVEL, "mode": "open"}), (ends, "bound_table", LEVEL), (ends, "is_bound_table", {**LEVEL, "value": ends.bound_table(**LEVEL)}),
    (reaching, "end_paper", {**LEVEL, "cell": CELL}), (reaching, "paper_end", {**LEVEL, "paper": reaching.end_paper(**LEVEL, cell=CELL)}),
    (reaching, "first_beyond", {**LEVEL, "cut": CUT}),
    (slack, "deciding", {**BEGUN, "place": PLACE, "position": 0}), (slack, "slack", {**BEGUN, "place": PLACE, "position": 0}),
    (slack, "beyond_slack", {**BEGUN, "place": PLACE, "position": 0, "number": 9}), (slack, "slacks", BEGUN),
    (courses, "Course", {"program": MUTE, "state": START, "word": ["report", "tick"]}),
    (hands, "safe_cells", SAFE), (hands, "is_safe", {**SAFE, "state": START}), (hands, "forced_within", {**SAFE, "state": START}),
    (hands, "safe_stretches", {**SAFE, "state": START, "level": "x"}), (hands, "setting_stretches", {**SAFE, "state": START, "place": PLACE, "level": "x"}),
    (hands, "choices", SAFE), (hands, "is_choices", {**SAFE, "value": hands.choices(**SAFE)}), (hands, "is_ranks", {**SAFE, "value": hands.ranks(**SAFE)}), (hands, "ranks", SAFE),
    (prices, "cheapest_to", {**BEGUN, "answer": "mute", "prices": {"tick": 2, "report": 3}}), (prices, "longest_without", {**BEGUN, "answers": ["mute", "open"]}),
    (prices, "shares", {"program": MUTE, "state": START, "answer": "mute"}),
    (watching, "heard_ends", {**BEGUN, "heard": [("tick", "open"), (None, "open")], "level": "x"}), (watching, "heard_modes", {**BEGUN, "heard": [(None, "mute")]}),
    (watching, "telling", BEGUN), (watching, "is_telling", {**BEGUN, "history": ["report"]}),
    (forgetting, "forgotten_within", BEGUN), (forgetting, "remembered", BEGUN), (forgetting, "is_remembered", {**BEGUN, "value": forgetting.remembered(**BEGUN)}),
    (forgetting, "still_apart", BEGUN), (forgetting, "matters_within", {"program": MUTE, "state": START, "level": "x"}),
    (joins, "side_by_side", {"one": MUTE, "other": OTHER}), (joins, "joined_behind", {"one": EARS, "other": MUTE}),
    (joins, "joined_state", {"one_state": START, "other_state": ("on", {"y": 1})}),
    (texts, "number_text", {"number": 3}), (texts, "read_number", {"text": "3/2"}), (texts, "cut_text", {"cut": CUT}), (texts, "program_text", {"program": MUTE}),
    (texts, "read_program", {"text": texts.program_text(MUTE)}), (texts, "state_text", {"program": MUTE, "state": START}),
    (texts, "read_state", {"program": MUTE, "text": "open x=3"}),
    (judge, "is_claim", {"value": CLAIM}), (judge, "is_certificate", {"claim": CLAIM, "value": judge.certificate_of(CLAIM)}), (judge, "certificate_of", {"claim": CLAIM}),
)
# Arguments of which the document says that they are lists.
LISTS = ("starts", "history", "word", "hand", "bad", "heard", "answers")


def told(call, args):
    """Return what a call returns, the elements of a generator as a list."""
    found = call(**args)
    return list(found) if inspect.isgenerator(found) else found


def spoil(value):
    """Empty all lists and dicts within a value."""
    if isinstance(value, dict):
        for part in value.values():
            spoil(part)
        value.clear()
    if isinstance(value, (list, tuple)):
        for part in value:
            spoil(part)
        if isinstance(value, list):
            value.clear()


def plain(value):
    """Return what a value is, for a comparison in which the classes within and the sequence of keys count."""
    return re.sub(" at 0x[0-9a-f]+", "", repr(value)), value


class Conventions(Checks):
    def test_by_position_and_by_name(self):
        for module, name, args in CALLS:
            call = getattr(module, name)
            parameters = inspect.signature(call).parameters
            self.assertEqual(set(parameters), set(args), name)
            by_place = call(*[args[parameter] for parameter in parameters])
            by_place = list(by_place) if inspect.isgenerator(by_place) else by_place
            self.assertEqual(by_place, told(call, args), name)

    def test_each_query_again(self):
        for module, name, args in CALLS:
            call = getattr(module, name)
            self.assertEqual(plain(told(call, args)), plain(told(call, args)), name)

    def test_results_are_new_and_arguments_are_not_changed(self):
        for module, name, args in CALLS:
            if name in ("Course", "step", "moves_behind"):
                continue
            call = getattr(module, name)
            before = {key: copy.deepcopy(args[key]) for key in args}
            first = told(call, args)
            kept = copy.deepcopy(first)
            spoil(first)
            self.assertEqual(told(call, args), kept, name)
            self.assertEqual(args, before, name)

    def test_tuples_for_lists(self):
        some = 0
        for module, name, args in CALLS:
            call = getattr(module, name)
            others = {key: tuple(args[key]) if key in LISTS else args[key] for key in args}
            some += any(key in LISTS for key in args)
            self.assertEqual(told(call, others), told(call, args), name)
        self.assertGreater(some, 30)

    def test_keys_in_another_sequence(self):
        turned = {mode: dict(reversed(list(FAMILY[mode].items()))) for mode in reversed(list(FAMILY))}
        for module, name, args in CALLS:
            call = getattr(module, name)
            others = {key: turned if key == "family" else dict(reversed(list(args[key].items()))) if isinstance(args[key], dict) else args[key] for key in args}
            self.assertEqual(told(call, others), told(call, args), name)

    def test_sorted_keys(self):
        some = 0
        for module, name, args in CALLS:
            found = told(getattr(module, name), args)
            for value in found if isinstance(found, tuple) else [found]:
                if isinstance(value, dict):
                    self.assertEqual(list(value), sorted(value), name)
                    some += 1
        self.assertGreater(some, 8)

    def test_objects_copy_what_they_are_given(self):
        moved, when = {"x": Move.adding(1, HELD)}, [("x", "above", 3)]
        rule = Rule("on", "no", when=when, moves=moved)
        table, levels = {"on": {"go": [rule, Rule("on", "no")]}}, {"x": HELD}
        program = Program(levels, table)
        text = texts.program_text(program)
        for value in (moved, when, levels, table["on"]["go"], table["on"], table):
            value.clear()
        self.assertEqual((rule.when(), rule.moves()), ((("x", "above", Ratio(3)),), {"x": Move.adding(1, HELD)}))
        self.assertEqual(texts.program_text(program), text)
        rows = [{"go": ("no", 0)}]
        machine = machines.Machine(rows)
        rows[0]["go"] = ("yes", 0)
        self.assertEqual(machine.rows(), [{"go": ("no", 0)}])

    def test_objects_and_values_of_another_kind(self):
        made = (Ratio(1), HELD, Move.adding(1, HELD), Rule("on", "no"), MUTE, machines.Machine([{"go": ("no", 0)}]), courses.Course(MUTE, START, ["tick"]), desk.Desk())
        for at, one in enumerate(made):
            self.assertEqual(one, copy.deepcopy(one))
            for other in made[:at] + made[at + 1:] + (None, 1, "on", (), [], {}):
                self.assertFalse(one == other)
                self.assertTrue(one != other)

    def test_true_is_no_integer_and_no_position(self):
        self.assertFalse(ratios.is_number(True) or cuts.is_cut((True, True)) or runs.is_state(MUTE, ("open", {"x": False})))
        self.assertFalse(cells.is_cell(MUTE, ("open", (False,))) or judge.is_claim(("forgotten", MUTE, STARTS, True)))
        self.assertFalse(hands.is_ranks(MUTE, [], ["open"], {("mute", (0,)): True}))
        self.assertTrue(hands.is_ranks(MUTE, [], ["open"], {("mute", (0,)): 1}))

    def test_methods_of_moves_and_programs_by_name(self):
        self.assertEqual(Move.setting(number=3), moves.Move(divisor=1, plus=0, low=3, high=3))
        self.assertEqual(MUTE.with_number(place=PLACE, position=0, number=5), MUTE.with_rules(mode="open", letter="report", rules=[
            MUTE.rule(place=PLACE).changed(when=[("x", "from", 5)]), MUTE.rules(mode="open", letter="report")[1]]))
        self.assertEqual(programs.Program(rules={"on": {"go": [Rule(answer="no", goal="on")]}}, levels={}).letters(), ["go"])


if __name__ == "__main__":
    unittest.main()
