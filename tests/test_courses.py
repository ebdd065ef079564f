"""Tests of fademodes.courses: words that are done on and on [29]."""

import unittest
from fractions import Fraction

from examples import HELD, ODD_VALUES, Checks, fraction, mute
from fademodes.cells import cell_of
from fademodes.courses import Course
from fademodes.cuts import Range
from fademodes.errors import (
    InvalidCount, InvalidHistory, InvalidPosition, InvalidProgram, InvalidState, TooMany)
from fademodes.joins import joined_state, side_by_side
from fademodes.moves import Move
from fademodes.programs import Program, Rule
from fademodes.ratios import Ratio
from samples import Chance, counter, grid_of, lights, plain_state, plain_step, ratio_state, two_levels

MUTE = mute()
START = ("open", {"x": 0})
MOST_TURNS = 260


def one_letter(**moves):
    """Return a program with one mode, a level x, and a letter for each move."""
    return Program({"x": HELD}, {"on": {letter: [Rule("on", "no", moves={"x": move})] for letter, move in moves.items()}})


def cases():
    """Return tuples (program, state, word) of small programs."""
    found = [(MUTE, START, word) for word in (["tick"], ["report"], ["report", "tick"], ["report", "tick", "tick"], ["report"] * 4 + ["tick"] * 3)]
    found += [(lights(), ("red", {}), ["go"]), (lights(), ("red", {}), ["go", "go", "halt"])]
    for seed in range(120):
        chance = Chance(seed)
        program = chance.program(seed % 3)
        letters = program.letters()
        found.append((program, chance.state(program), chance.random.choices(letters, k=1 + seed % 4)))
    chance = Chance(5)
    for seed in range(6):
        found.append((two_levels(), chance.state(two_levels()), chance.random.choices(("beat", "rest"), k=1 + seed % 3)))
    return found


def plain_turns(program, state, word, many):
    """Return the states behind 0, 1, .. turns, with Fractions."""
    found = [plain_state(state)]
    for _ in range(many):
        here = found[-1]
        for letter in word:
            here = plain_step(program, here, letter)[0]
        found.append(here)
    return found


class Cells(Checks):
    def test_mute(self):
        for word, begin, ring in ((["tick"], 0, 1), (["report"], 2, 1), (["report", "tick"], 2, 1), (["report", "tick", "tick"], 0, 1)):
            course = Course(MUTE, START, word)
            self.same((course.begin, course.ring), (begin, ring))
        course = Course(word=["report"], state=START, program=MUTE)
        self.same([course.cell(turns) for turns in range(5)], [("open", (0,)), ("open", (2,)), ("mute", (4,)), ("mute", (4,)), ("mute", (4,))])

    def test_small_programs(self):
        rings = {}
        for program, state, word in cases():
            course = Course(program, state, word)
            states = plain_turns(program, state, word, 60)
            found = [cell_of(program, ratio_state(here)) for here in states]
            begin = next(at for at in range(60) if found[at] in found[at + 1:])
            ring = found[begin + 1:].index(found[begin]) + 1
            self.same((course.begin, course.ring), (begin, ring))
            self.same([course.cell(turns) for turns in range(61)], found)
            self.same(course.cell(begin + ring * 10 ** 29), found[begin])
            rings[ring] = True
        self.assertGreater(len(rings), 2)

    def test_very_many_turns(self):
        course = Course(lights(), ("red", {}), ["go"])
        self.same((course.begin, course.ring, course.stands_from), (1, 2, 1))
        self.same([course.cell(turns) for turns in (10 ** 30, 10 ** 30 - 1, 0, 1)],
                  [("amber", ()), ("green", ()), ("red", ()), ("green", ())])

    def test_words_told_twice(self):
        for program, state, word in cases():
            one, two = Course(program, state, word), Course(program, state, word * 2)
            self.same([two.cell(turns) for turns in range(40)], [one.cell(2 * turns) for turns in range(40)])
            self.same(two.begin, -(-one.begin // 2))
            self.same(two.ring, one.ring if one.ring % 2 else one.ring // 2)
            self.same(two.stands_from, None if one.stands_from is None else -(-one.stands_from // 2))

    def test_turns_that_are_none(self):
        course = Course(MUTE, START, ["tick"])
        for value in ODD_VALUES + (-1, 10 ** 30 + 1, 10 ** 40, Ratio(1, 2)):
            self.refuses(InvalidCount, {"value": value}, course.cell, value)
        self.same(course.cell(turns=10 ** 30), ("open", (0,)))


class Standing(Checks):
    def test_small_programs(self):
        many = {"never": 0, "late": 0}
        for program, state, word in cases():
            course = Course(program, state, word)
            states = plain_turns(program, state, word, MOST_TURNS)
            wanted = next((at for at in range(MOST_TURNS - course.ring) if states[at] == states[at + course.ring]), None)
            self.same(course.stands_from, wanted)
            many["never"] += wanted is None
            many["late"] += wanted is not None and wanted > course.begin
        self.assertGreater(min(many.values()), 10)

    def test_mute(self):
        for word, wanted in ((["tick"], 0), (["report"], 2), (["report", "tick"], None), (["report"] * 2 + ["tick"], 1)):
            self.same(Course(MUTE, START, word).stands_from, wanted)
        self.same(Course(MUTE, ("open", {"x": 1}), ["tick"]).stands_from, None)

    def test_far_away(self):
        held = Range(0, 10 ** 9)
        program = Program({"x": held}, {"on": {"up": [Rule("on", "no", moves={"x": Move.adding(Ratio(1, 10 ** 6), held)})]}})
        for number, wanted in ((0, 10 ** 15), (Ratio(1, 7), 10 ** 15 - 142857), (10 ** 9, 0)):
            course = Course(program, ("on", {"x": number}), ["up"])
            self.same((course.begin, course.ring, course.stands_from), (0, 1, wanted))
            self.same(course.limits(0), {"x": (Ratio(10 ** 9), True)})
        course = Course(program, ("on", {"x": 0}), ["up"] * 300)
        self.same(course.stands_from, -(-10 ** 15 // 300))

    def test_far_away_in_a_ring_of_several_cells(self):
        held = Range(0, 10 ** 9)
        small = Move.adding(Ratio(1, 10 ** 6), held)
        rules = {"a": {"go": [Rule("b", "no", moves={"x": small})]}, "b": {"go": [Rule("c", "no")]}, "c": {"go": [Rule("a", "no", moves={"x": small})]}}
        program = Program({"x": held}, rules)
        # Two small steps in three turns, the last of them behind a turn from a or from c.
        for number, wanted in ((Ratio(10 ** 9) - Ratio(4, 10 ** 6), 6), (Ratio(10 ** 9) - Ratio(3, 10 ** 6), 4), (0, 15 * 10 ** 14)):
            course = Course(program, ("a", {"x": number}), ["go"])
            self.same((course.begin, course.ring, course.stands_from), (0, 3, wanted))

    def test_held_beside_the_fixed_number(self):
        program = one_letter(a=Move(2, 8, 0, Ratio(8 * 10 ** 6 - 1, 10 ** 6)), b=Move(3, 6, Ratio(3) + Ratio(1, 10 ** 5), 16))
        for state, word in ((0, ["a"]), (16, ["b"]), (1, ["a"] * 3), (5, ["b", "b"])):
            course = Course(program, ("on", {"x": state}), word)
            states = plain_turns(program, ("on", {"x": state}), word, 80)
            self.same(course.stands_from, next(at for at in range(80) if states[at] == states[at + 1]))
            self.assertIs(course.limits(0)["x"][1], True)

    def test_one_level_is_enough_to_stand_never(self):
        one, other = one_letter(go=Move.adding(1, HELD)), Program({"y": HELD}, {"on": {"go": [Rule("on", "no", moves={"y": Move.dividing(2, HELD)})]}})
        program = side_by_side(one, other)
        for number, wanted in ((0, 16), (1, None)):
            course = Course(program, joined_state(("on", {"x": 0}), ("on", {"y": number})), ["go"])
            self.same(course.stands_from, wanted)
            self.same(course.limits(0), {"x": (Ratio(16), True), "y": (Ratio(0), number == 0)})


class Limits(Checks):
    def test_small_programs(self):
        many = {True: 0, False: 0}
        for program, state, word in cases():
            course = Course(program, state, word)
            states = plain_turns(program, state, word, MOST_TURNS)
            for place in range(course.ring):
                found = course.limits(place)
                self.assertEqual(list(found), sorted(program.levels()))
                for level, (limit, is_met) in found.items():
                    numbers = [here[1][level] for here in states[course.begin + place::course.ring]]
                    self.assertIsInstance(limit, Ratio)
                    self.assertIs(is_met, numbers[-1] == fraction(limit))
                    self.assertLess(abs(numbers[-1] - fraction(limit)), Fraction(1, 10 ** 6))
                    many[is_met] += 1
                mode = states[course.begin + place][0]
                self.same(course.limit_cell(place), cell_of(program, (mode, {level: found[level][0] for level in found})))
        self.assertGreater(min(many.values()), 20)

    def test_mute(self):
        course = Course(MUTE, START, ["report", "tick", "tick"])
        self.same(course.limits(0), {"x": (Ratio(8, 3), False)})
        self.same(course.limit_cell(0), ("open", (0,)))
        course = Course(MUTE, START, ["tick"])
        self.same(course.limits(place=0), {"x": (Ratio(0), True)})

    def test_a_limit_in_another_cell(self):
        course = Course(MUTE, ("mute", {"x": 16}), ["report", "tick"])
        self.same(course.limits(0), {"x": (Ratio(8), True)})
        course = Course(MUTE, ("mute", {"x": 5}), ["report", "tick"])
        self.same(course.limits(0), {"x": (Ratio(8), False)})
        self.same((course.cell(course.begin), course.limit_cell(0)), (("mute", (2,)), ("mute", (3,))))

    def test_a_place_for_each_turn_of_the_ring(self):
        held = Range(0, 100)
        rules = {"a": {"go": [Rule("b", "no", moves={"x": Move(3, 7, 0, 100)})]}, "b": {"go": [Rule("a", "no", moves={"x": Move(2, 1, 0, 100)})]}}
        course = Course(Program({"x": held}, rules), ("a", {"x": 100}), ["go"])
        self.same([course.limits(place) for place in (0, 1)], [{"x": (Ratio(2), False)}, {"x": (Ratio(3), False)}])
        self.same([course.limit_cell(place) for place in (0, 1)], [("a", (0,)), ("b", (0,))])

    def test_places_of_a_ring_that_is_come_to_later(self):
        held = Range(0, 100)
        rules = {"y": {"go": [Rule("z", "no", moves={"x": Move.setting(90)})]}, "z": {"go": [Rule("a", "no", moves={"x": Move(1, 0, 40, 50)})]},
                 "a": {"go": [Rule("b", "no", moves={"x": Move(3, 7, 0, 100)})]}, "b": {"go": [Rule("c", "no", moves={"x": Move(2, 1, 0, 100)})]},
                 "c": {"go": [Rule("a", "no", moves={"x": Move.adding(1, held)})]}}
        course = Course(Program({"x": held}, rules), ("y", {"x": 0}), ["go"])
        self.same((course.begin, course.ring, course.stands_from), (2, 3, None))
        self.same([course.cell(turns)[0] for turns in range(12)], list("yzabcabcabca"))
        self.same([course.cell(10 ** 30 - at)[0] for at in range(4)], list("cbac"))
        # Around from a: ((x + 7) / 3 + 1) / 2 + 1 = (x + 16) / 6, which stays at 16/5.
        wanted = [Ratio(16, 5), Ratio(17, 5), Ratio(11, 5)]
        self.same([course.limits(place) for place in range(3)], [{"x": (number, False)} for number in wanted])
        self.same([course.limit_cell(place)[0] for place in range(3)], list("abc"))

    def test_places_that_are_none(self):
        course = Course(lights(), ("red", {}), ["go"])
        for call in (course.limits, course.limit_cell):
            for value in ODD_VALUES + (2, -1, 10 ** 30):
                self.refuses(InvalidPosition, {"value": value}, call, value)
        self.same([course.limits(1), course.limit_cell(place=1)], [{}, ("amber", ())])

    def test_new_each_time(self):
        course = Course(MUTE, START, ["tick"])
        course.limits(0).clear()
        self.same(course.limits(0), {"x": (Ratio(0), True)})


class Walks(Checks):
    def test_small_programs(self):
        for program, state, word in cases():
            many = 300 // len(word)
            found = list(Course(program, state, word).walk(min(many, 40)))
            self.assertEqual([plain_state(here) for here in found], plain_turns(program, state, word, min(many, 40)))
            self.assertTrue(all(isinstance(number, Ratio) for here in found for number in here[1].values()))

    def test_mute(self):
        self.same(list(Course(MUTE, START, ["report", "tick"]).walk(2)), [("open", {"x": Ratio(0)}), ("open", {"x": Ratio(4)}), ("mute", {"x": Ratio(6)})])
        self.same(list(Course(MUTE, START, ["report", "tick"]).walk(turns=0)), [("open", {"x": Ratio(0)})])

    def test_broken_off(self):
        walk = Course(MUTE, START, ["tick"]).walk(300)
        first = next(walk)
        first[1]["x"] = Ratio(16)
        self.same(next(walk), ("open", {"x": Ratio(0)}))
        walk.close()
        self.same(len(list(Course(MUTE, START, ["tick"]).walk(300))), 301)

    def test_three_hundred_letters(self):
        course = Course(MUTE, START, ["report", "tick", "tick"])
        self.same(len(list(course.walk(100))), 101)
        for turns in (101, 10 ** 30, 10 ** 50):
            self.refuses(TooMany, {"kind": "letters", "limit": 300}, lambda: next(course.walk(turns)))
        for value in ODD_VALUES + (-1, Ratio(3, 2)):
            self.refuses(InvalidCount, {"value": value}, lambda: next(course.walk(value)))


class Copies(Checks):
    def test_what_is_passed_may_change_later(self):
        state, word = ("open", {"x": 0}), ["report", "tick"]
        course = Course(MUTE, state, word)
        state[1]["x"] = 16
        word.clear()
        self.same(list(course.walk(1)), [("open", {"x": Ratio(0)}), ("open", {"x": Ratio(4)})])

    def test_tuples_are_lists(self):
        self.same(Course(MUTE, START, ("report",)).stands_from, Course(MUTE, START, ["report"]).stands_from)

    def test_equality(self):
        self.assertEqual(Course(MUTE, START, ("tick",)), Course(mute(), ("open", {"x": Ratio(0)}), ["tick"]))
        for other in (Course(MUTE, START, ["report"]), Course(MUTE, ("open", {"x": 1}), ["tick"]), Course(MUTE.without_rule(("mute", "tick", 0)), START, ["tick"]), None, START):
            self.assertNotEqual(Course(MUTE, START, ["tick"]), other)


class Refused(Checks):
    def test_refused(self):
        for value in ODD_VALUES:
            self.refuses(InvalidProgram, {"value": value}, Course, value, None, None)
            self.refuses(InvalidState, {"value": value}, Course, MUTE, value, None)
            if value != [1]:
                self.refuses(InvalidHistory, {"position": None}, Course, MUTE, START, value)
            self.refuses(InvalidHistory, {"position": 1}, Course, MUTE, START, ["tick", value, None])
        for value in ([], (), "tick"):
            self.refuses(InvalidHistory, {"position": None}, Course, MUTE, START, value)
        self.refuses(InvalidHistory, {"position": 300}, Course, MUTE, START, ["tick"] * 300 + ["tock"] * 2)

    def test_limits(self):
        much, few = counter(601), counter(600)
        state = ("on", {"x": 0})
        self.refuses(TooMany, {"kind": "cuts", "limit": 600}, Course, much, state, ["up"])
        self.refuses(TooMany, {"kind": "cuts", "limit": 600}, Course, much, state, ["up"] * 301)
        self.refuses(InvalidHistory, {"position": None}, Course, much, state, [])
        self.refuses(InvalidState, {"value": None}, Course, much, None, ["up"])
        self.refuses(TooMany, {"kind": "letters", "limit": 300}, Course, few, state, ["up"] * 301)
        course = Course(few, state, ["up"])
        self.same((course.begin, course.ring, course.stands_from), (600, 1, 600))
        self.same(Course(few, state, ["up"] * 300).begin, 2)
        self.same(Course(grid_of(50, 61), ("on", {"x": 0, "y": 0}), ["upx", "upy"]).begin, 60)


if __name__ == "__main__":
    unittest.main()
