"""Tests of fademodes.reaching: papers of ends [25], and the first histories that pass a cut."""

import unittest
from fractions import Fraction
from itertools import product

from examples import HELD, ODD_VALUES, Checks, mute
from fademodes.cells import cell_of, come_to
from fademodes.cuts import Range, is_above, is_within
from fademodes.ends import end_of, ends
from fademodes.errors import (
    InvalidCell, InvalidCut, InvalidPaper, InvalidProgram, InvalidSide, InvalidStarts, TooMany, UnknownLevel)
from fademodes.moves import Move
from fademodes.programs import Program, Rule
from fademodes.ratios import Ratio
from fademodes.reaching import end_paper, first_beyond, paper_end
from fademodes.runs import is_state, state_behind
from samples import (
    Chance, counter, grid_of, is_over, number_near, plain_cell, plain_cut, plain_needed, plain_part, plain_state, plain_step,
    two_levels)

MUTE = mute()
STARTS = [("open", {"x": 0})]
SIDES = ("upper", "lower")
NEAR = Fraction(1, 1000)


def stretch(low, low_is_above, high, high_is_above):
    return (low, low_is_above), (high, high_is_above)


def cases():
    """Return tuples (program, starts) of small programs."""
    found = [(MUTE, STARTS), (MUTE, [("open", {"x": stretch(1, True, 3, False)}), ("mute", {"x": 7})])]
    for seed in range(30):
        chance = Chance(seed)
        program = chance.program(1 + seed % 2)
        found.append((program, [chance.start(program) for _ in range(1 + seed % 3)]))
    chance = Chance(8)
    return found + [(two_levels(), [chance.start(two_levels()) for _ in range(2)])]


def behind(program, state, history):
    """Return the state behind a history, with Fractions."""
    for letter in history:
        state = plain_step(program, state, letter)[0]
    return state


class Papers(Checks):
    def test_mute(self):
        for side in SIDES:
            for cell, end in ends(MUTE, STARTS, "x", side).items():
                paper = end_paper(MUTE, STARTS, "x", side, cell)
                self.same(paper_end(MUTE, STARTS, "x", side, paper), (cell, end))
                self.assertEqual([type(part) for part in paper], [int, tuple, list, list, list])
        self.same(end_paper(cell=("open", (0,)), side="lower", level="x", starts=STARTS, program=MUTE), (0, ("open", {"x": Ratio(0)}), [], [], []))

    def test_papers_lead_to_each_end_of_each_cell(self):
        for seed, (program, starts) in enumerate(cases()):
            needed = plain_needed(program)
            for level, side in product(program.levels(), SIDES):
                found = ends(program, starts, level, side)
                rows = list(found)
                for cell in Chance(seed).random.sample(rows, min(len(rows), 4)):
                    paper = end_paper(program, starts, level, side, cell)
                    self.same(paper_end(program, starts, level, side, paper), (cell, found[cell]))
                    self.check_paper(program, needed, starts, level, side, paper, cell, plain_cut(found[cell]))

    def check_paper(self, program, needed, starts, level, side, paper, cell, end):
        """Check with Fractions that going round on and on comes to the end, or as near as one likes, and not beyond."""
        position, state, ahead, turn, after = paper
        self.assertTrue(is_state(program, state))
        first = plain_cell(program, needed, plain_state(state))
        part = plain_part(program, needed, starts[position], first)
        self.assertIsNotNone(part)
        for other, number in plain_state(state)[1].items():
            self.assertTrue(is_over(number, part[other][0]) and not is_over(number, part[other][1]))
        here = behind(program, (state[0], {**plain_state(state)[1], level: number_near(part[level], side)}), ahead)
        turns = 0
        if turn:
            self.assertEqual(plain_cell(program, needed, here), plain_cell(program, needed, behind(program, here, turn)))
            turns = 80
        last = behind(program, here, turn * turns + after)
        self.assertEqual(plain_cell(program, needed, last), cell)
        number = last[1][level]
        self.assertLessEqual(abs(number - end[0]), NEAR)
        if end[1] == (side == "upper"):
            self.assertEqual(number, end[0])
        self.assertEqual(is_over(number, end), side == "lower")

    def test_papers_of_mute(self):
        start = ("open", {"x": 0})
        for paper, side, wanted in (
                ((0, start, [], [], []), "upper", (("open", (0,)), (Ratio(0), True))),
                ((0, start, [], [], []), "lower", (("open", (0,)), (Ratio(0), False))),
                ((0, start, ["report"], [], ["tick"]), "upper", (("open", (1,)), (Ratio(4), True))),
                ((0, start, [], ["report", "tick", "tick"], []), "upper", (("open", (0,)), (Ratio(8, 3), False))),
                ((0, start, [], ["report", "tick", "tick"], ["report"]), "upper", (("open", (2,)), (Ratio(32, 3), False))),
                ((0, start, [], ["report", "tick", "tick"], []), "lower", (("open", (0,)), (Ratio(0), False))),
                ((0, start, ["report"] * 3, ["report"], ["tick"]), "upper", (("mute", (3,)), (Ratio(8), True))),
                ((0, start, (), ("tick",), ()), "upper", (("open", (0,)), (Ratio(0), True)))):
            self.same(paper_end(MUTE, STARTS, "x", side, paper), wanted)
        self.same(paper_end(paper=(0, start, [], [], []), side="upper", level="x", starts=STARTS, program=MUTE)[0], ("open", (0,)))

    def test_the_part_of_the_start_in_the_cell_of_the_state(self):
        starts = [("open", {"x": 9}), ("open", {"x": stretch(3, True, 6, False)})]
        for number, side, wanted in ((Ratio(7, 2), "upper", (("open", (0,)), (Ratio(4), False))), (5, "upper", (("open", (1,)), (Ratio(6), False))),
                                     (Ratio(7, 2), "lower", (("open", (0,)), (Ratio(3), True))), (5, "lower", (("open", (1,)), (Ratio(4), False)))):
            self.same(paper_end(MUTE, starts, "x", side, (1, ("open", {"x": number}), [], [], [])), wanted)

    def test_limits_that_are_met(self):
        program = Program({"x": HELD}, {"on": {"less": [Rule("on", "no", moves={"x": Move.adding(Ratio(-1, 3), HELD)})],
                                               "more": [Rule("on", "no", moves={"x": Move(2, 9, 0, 8)})]}})
        starts = [("on", {"x": stretch(1, True, 2, False)})]
        state = ("on", {"x": Ratio(3, 2)})
        self.same(paper_end(program, starts, "x", "lower", (0, state, [], ["less"], [])), (("on", (0,)), (Ratio(0), False)))
        self.same(paper_end(program, starts, "x", "upper", (0, state, [], ["less"], [])), (("on", (0,)), (Ratio(2), False)))
        self.same(paper_end(program, starts, "x", "upper", (0, state, [], ["more"], [])), (("on", (0,)), (Ratio(8), True)))
        self.same(paper_end(program, starts, "x", "upper", (0, state, [], ["more", "less"], [])), (("on", (0,)), (Ratio(23, 3), True)))
        self.same(paper_end(program, starts, "x", "upper", (0, state, ["less"] * 9, ["more"], ["less"])), (("on", (0,)), (Ratio(23, 3), True)))

    def test_long_histories(self):
        paper = (0, ("open", {"x": 0}), ["tick"] * 900, ["report", "tick", "tick"] * 50, ["tick"] * 400)
        self.same(paper_end(MUTE, STARTS, "x", "upper", paper), (("open", (0,)), (Ratio(8, 3 * 2 ** 400), False)))

    def test_values_that_are_no_papers(self):
        start = ("open", {"x": 0})
        good = (0, start, ["report"], ["tick", "tick", "report"], [])
        self.same(paper_end(MUTE, STARTS, "x", "upper", good), (("open", (2,)), (Ratio(32, 3), False)))
        wrong = [list(good), good[:4], good + ([],), (1,) + good[1:], (-1,) + good[1:], (False,) + good[1:], (None,) + good[1:],
                 (0, ("open", {"x": 1})) + good[2:], (0, ("mute", {"x": 0})) + good[2:], (0, ("open", {"x": False})) + good[2:],
                 (0, ("open", {"x": stretch(0, False, 0, True)})) + good[2:], (0, None) + good[2:]]
        for at in (2, 3, 4):
            for value in (None, "tick", "", {}, {"tick": 1}, ["tock"], [None], ["tick", 1], [["tick"]], 1):
                wrong.append(good[:at] + (value,) + good[at + 1:])
        for turn in (["tick"], ["report"], ["tick", "report"], ["tick", "tick"]):
            wrong.append(good[:3] + (turn, []))
        for value in wrong + list(ODD_VALUES):
            self.refuses(InvalidPaper, {"value": value}, paper_end, MUTE, STARTS, "x", "upper", value)

    def test_states_of_the_start(self):
        starts = [("open", {"x": stretch(1, True, 3, False)})]
        for number, is_in in ((2, True), (Ratio(11, 10), True), (1, False), (3, False), (0, False), (8, False)):
            paper = (0, ("open", {"x": number}), [], [], [])
            if is_in:
                self.same(paper_end(MUTE, starts, "x", "upper", paper), (("open", (0,)), (Ratio(3), False)))
            else:
                self.refuses(InvalidPaper, {"value": paper}, paper_end, MUTE, starts, "x", "upper", paper)

    def test_cells_that_are_not_come_to(self):
        for value in ODD_VALUES + (("open", (3,)), ("open", (9,)), ("open", (False,)), ["open", (0,)], ("open", [0])):
            self.refuses(InvalidCell, {"value": value}, end_paper, MUTE, STARTS, "x", "upper", value)
        self.same(paper_end(MUTE, [("open", {"x": 16})], "x", "lower", (0, ("open", {"x": 16}), [], [], [])), (("open", (3,)), (Ratio(16), False)))

    def test_new_each_time(self):
        paper = end_paper(MUTE, STARTS, "x", "upper", ("open", (1,)))
        for part in paper[2:]:
            part.clear()
        paper[1][1].clear()
        self.same(paper_end(MUTE, STARTS, "x", "upper", end_paper(MUTE, STARTS, "x", "upper", ("open", (1,)))), (("open", (1,)), (Ratio(16, 3), False)))


class FirstBeyond(Checks):
    def test_mute(self):
        start = ("open", {"x": Ratio(0)})
        for side, cut, history in (("upper", (0, False), []), ("upper", (0, True), ["report"]), ("upper", (8, False), ["report"]),
                                   ("upper", (8, True), ["report", "report"]), ("upper", (16, False), ["report", "report"]),
                                   ("upper", (-1, True), []), ("lower", (0, True), []), ("lower", (99, False), [])):
            self.same(first_beyond(MUTE, STARTS, "x", side, cut), (start, history))
        self.same(first_beyond(cut=(Ratio(1, 2), True), side="upper", level="x", starts=STARTS, program=MUTE), (start, ["report"]))

    def test_a_cut_that_is_never_passed(self):
        for side, cut in (("upper", (16, True)), ("upper", (99, False)), ("lower", (0, False)), ("lower", (-9, True))):
            self.same(first_beyond(MUTE, STARTS, "x", side, cut), None)
        halved = Program({"x": HELD}, {"on": {"go": [Rule("on", "no", moves={"x": Move(2, 8, 0, 16)})]}})
        starts = [("on", {"x": 0})]
        self.same(first_beyond(halved, starts, "x", "upper", (8, False)), None)
        self.same(first_beyond(halved, starts, "x", "upper", (Ratio(63, 8), False)), (("on", {"x": Ratio(0)}), ["go"] * 6))
        self.same(first_beyond(halved, starts, "x", "upper", (Ratio(63, 8), True)), (("on", {"x": Ratio(0)}), ["go"] * 7))
        starts = [("on", {"x": stretch(2, True, 4, False)})]
        self.same(first_beyond(halved, starts, "x", "lower", (2, True)), None)
        state, history = first_beyond(halved, starts, "x", "lower", (Ratio(2001, 1000), False))
        self.assertTrue(is_within(state[1]["x"], stretch(2, True, Ratio(2001, 1000), False)))
        self.same(history, [])

    def test_the_numbers_of_a_stretch_that_pass(self):
        starts = [("open", {"x": stretch(0, True, 4, False)}), ("mute", {"x": 2})]
        state, history = first_beyond(MUTE, starts, "x", "upper", (Ratio(119, 10), False))
        self.same(history, ["report"])
        self.assertTrue(is_within(state[1]["x"], stretch(Ratio(39, 10), False, 4, False)))
        self.assertTrue(is_above(state_behind(MUTE, state, history)[1]["x"], (Ratio(119, 10), False)))

    def test_all_short_histories(self):
        for seed, (program, starts) in enumerate(cases()):
            chance = Chance(seed)
            needed = plain_needed(program)
            for level, side in product(program.levels(), SIDES):
                held = program.levels()[level]
                cuts = [(chance.inside(held), chance.random.random() < 0.5) for _ in range(2)]
                for cut in cuts + [end_of(program, starts, level, side)]:
                    self.check_first(program, needed, starts, level, side, cut)

    def check_first(self, program, needed, starts, level, side, cut):
        found = first_beyond(program, starts, level, side, cut)
        wanted = self.plain_first(program, needed, starts, level, side, plain_cut(cut), 4)
        self.same(found[1] if found and len(found[1]) <= 4 else None, wanted)
        is_there = [end for end in ends(program, starts, level, side).values()
                    if (plain_cut(end) > plain_cut(cut) if side == "upper" else plain_cut(end) < plain_cut(cut))]
        self.assertEqual(found is not None, len(is_there) > 0)
        if found is not None:
            state, history = found
            self.assertTrue(any(self.is_in(state, start) for start in starts))
            self.assertEqual(is_above(state_behind(program, state, history)[1][level], cut), side == "upper")

    def is_in(self, state, start):
        rows = [(state[1][level], value) for level, value in start[1].items()]
        return state[0] == start[0] and all(is_within(number, value) if isinstance(value, tuple) else number == Ratio.of(value)
                                            for number, value in rows)

    def plain_first(self, program, needed, starts, level, side, cut, most):
        """Return the first history of at most so many letters that passes a plain cut, from numbers at the ends of the starts."""
        begins = []
        for cell, history in come_to(program, starts):
            for start in starts:
                part = plain_part(program, needed, start, cell)
                if part is not None and not history:
                    numbers = {name: number_near(part[name], "lower") for name in part}
                    begins.append((cell[0], {**numbers, level: number_near(part[level], side)}))
        for many in range(most + 1):
            for history in product(program.letters(), repeat=many):
                for begin in begins:
                    if is_over(behind(program, begin, history)[1][level], cut) == (side == "upper"):
                        return list(history)
        return None

    def test_three_hundred_letters(self):
        held = Range(0, 1000)
        program = Program({"x": held}, {"on": {"up": [Rule("on", "no", moves={"x": Move.adding(1, held)})], "stay": [Rule("on", "no")]}})
        starts = [("on", {"x": stretch(0, False, 1, False)})]
        state, history = first_beyond(program, starts, "x", "upper", (300, True))
        self.same(history, ["up"] * 300)
        self.assertTrue(is_within(state[1]["x"], stretch(0, True, 1, False)))
        self.refuses(TooMany, {"kind": "letters", "limit": 300}, first_beyond, program, starts, "x", "upper", (301, False))
        self.refuses(TooMany, {"kind": "letters", "limit": 300}, first_beyond, program, starts, "x", "upper", (1000, False))
        self.same(first_beyond(program, starts, "x", "upper", (1000, True)), None)
        self.same(first_beyond(program, starts, "x", "lower", (0, False)), None)

    def test_new_each_time(self):
        found = first_beyond(MUTE, STARTS, "x", "upper", (8, True))
        found[0][1].clear()
        found[1].clear()
        self.same(first_beyond(MUTE, STARTS, "x", "upper", (8, True)), (("open", {"x": Ratio(0)}), ["report", "report"]))


class Refused(Checks):
    CALLS = (end_paper, paper_end, first_beyond)

    def test_refused(self):
        for call in self.CALLS:
            for value in ODD_VALUES:
                self.refuses(InvalidProgram, {"value": value}, call, value, None, None, None, None)
                self.refuses(InvalidStarts, {"position": 1}, call, MUTE, STARTS + [value, None], None, None, None)
                self.refuses(InvalidSide, {"value": value}, call, MUTE, STARTS, "x", value, None)
                if value != [1]:
                    self.refuses(InvalidStarts, {"position": None}, call, MUTE, value, None, None, None)
                if value != "x":
                    self.refuses(UnknownLevel, {"value": value}, call, MUTE, STARTS, value, None, None)
        for value in ODD_VALUES + ((4, 0), [4, True], (True, True), (4, True, True)):
            self.refuses(InvalidCut, {"value": value}, first_beyond, MUTE, STARTS, "x", "upper", value)

    def test_cuts(self):
        much, starts = counter(601), [("on", {"x": 0})]
        for call in self.CALLS:
            value = (0, False) if call is first_beyond else None
            self.refuses(TooMany, {"kind": "cuts", "limit": 600}, call, much, starts, "x", "upper", value)
        self.refuses(InvalidCut, {"value": None}, first_beyond, much, starts, "x", "upper", None)
        few = counter(600)
        self.same(paper_end(few, starts, "x", "upper", end_paper(few, starts, "x", "upper", ("on", (600,)))), (("on", (600,)), (Ratio(600), True)))
        self.refuses(TooMany, {"kind": "letters", "limit": 300}, first_beyond, few, starts, "x", "upper", (300, True))

    def test_cells(self):
        few, much = grid_of(50, 60), grid_of(50, 61)
        starts = [("on", {"x": 0, "y": 0})]
        many = {"kind": "cells", "limit": 3000}
        self.refuses(TooMany, many, end_paper, much, starts, "x", "upper", None)
        self.refuses(TooMany, many, first_beyond, much, starts, "x", "upper", (99, True))
        self.refuses(InvalidPaper, {"value": None}, paper_end, much, starts, "x", "upper", None)
        self.same(paper_end(much, starts, "x", "upper", (0, starts[0], ["upx"] * 60, ["upx"], ["upy"])), (("on", (49, 1)), (Ratio(49), True)))
        self.refuses(InvalidCell, {"value": None}, end_paper, few, starts, "x", "upper", None)
        self.same(first_beyond(few, starts, "y", "upper", (58, True)), (("on", {"x": Ratio(0), "y": Ratio(0)}), ["upy"] * 59))
        self.assertEqual(cell_of(few, ("on", {"x": 49, "y": 59})), ("on", (49, 59)))


if __name__ == "__main__":
    unittest.main()
