"""Tests of fademodes.watching: what was heard [33], histories that tell the mode [34]."""

import unittest
from itertools import product

from examples import HELD, ODD_VALUES, Checks, mute
from fademodes.cells import cell_of, cell_step, cells_met, come_to
from fademodes.cuts import Range
from fademodes.errors import (
    InvalidHeard, InvalidHistory, InvalidProgram, InvalidStarts, TooMany, UnknownLevel)
from fademodes.guesses import pairs_key
from fademodes.joins import joined_behind, side_by_side
from fademodes.moves import Move
from fademodes.programs import Program, Rule
from fademodes.ratios import Ratio
from fademodes.watching import heard_ends, heard_modes, is_telling, telling
from samples import Chance, counter, grid_of, lights, plain_cut, plain_image, plain_needed, plain_part, plain_state, plain_step, two_levels

MUTE = mute()
STARTS = [("open", {"x": 0})]
ALL = [("open", {"x": HELD.outer()}), ("mute", {"x": HELD.outer()})]


def stretch(low, low_is_above, high, high_is_above):
    return (low, low_is_above), (high, high_is_above)


def cases():
    """Return tuples (program, starts) of small programs."""
    found = [(MUTE, STARTS), (MUTE, ALL), (MUTE, [("open", {"x": stretch(1, True, 3, False)}), ("mute", {"x": 7})]),
             (lights(), [("red", {}), ("amber", {}), ("green", {})])]
    for seed in range(60):
        chance = Chance(seed)
        program = chance.program(seed % 3)
        found.append((program, [chance.start(program) for _ in range(1 + seed % 4)]))
    chance = Chance(8)
    return found + [(two_levels(), [chance.start(two_levels()) for _ in range(3)])]


def heard_in(program, starts, seed):
    """Return lists that can be heard, some of them from no state."""
    chance = Chance(seed)
    found = [[]]
    for many in (1, 2, 3, 4, 6):
        heard = []
        cell = chance.random.choice([row[0] for row in come_to(program, starts) if not row[1]])
        for _ in range(many):
            letter = chance.random.choice(program.letters())
            cell, answer, _ = cell_step(program, cell, letter)
            heard.append((letter if chance.random.random() < 0.6 else None, answer))
        found.append(heard)
    return found + [[(None, chance.random.choice(program.answers())) for _ in range(3)]]


class Heard(Checks):
    def test_mute(self):
        low, high = False, True
        self.same(heard_ends(MUTE, STARTS, [], "x"), {("open", (0,)): ((Ratio(0), low), (Ratio(0), high))})
        self.same(heard_ends(MUTE, STARTS, [(None, "open"), ("report", "mute"), (None, "mute")], "x"),
                  {("mute", (3,)): ((Ratio(8), low), (Ratio(8), high)), ("mute", (4,)): ((Ratio(16), low), (Ratio(16), high))})
        starts = [("open", {"x": stretch(1, True, 3, False)})]
        self.same(heard_ends(level="x", heard=[("report", "open"), (None, "mute")], starts=starts, program=MUTE),
                  {("mute", (4,)): ((Ratio(16), low), (Ratio(16), high))})
        self.same(heard_ends(MUTE, starts, (("report", "open"), ("tick", "open"), (None, "open")), "x"),
                  {("open", (0,)): ((Ratio(9, 4), high), (Ratio(11, 4), low))})
        self.same(heard_ends(MUTE, starts, [("report", "open"), ("tick", "mute")], "x"), {})
        self.same(heard_modes(heard=[("report", "open"), ("report", "mute")], starts=STARTS, program=MUTE), ["mute"])
        self.same(heard_modes(MUTE, ALL, [("tick", "open")]), ["open"])
        self.same(heard_modes(MUTE, ALL, []), ["mute", "open"])
        self.same(heard_modes(MUTE, ALL, [(None, "shut")]), [])

    def test_by_ends_of_each_history(self):
        some = {"met": 0, "approached": 0, "none": 0}
        for seed, (program, starts) in enumerate(cases()):
            for heard in heard_in(program, starts, seed):
                wanted = self.plain_ends(program, starts, heard)
                self.same(heard_modes(program, starts, heard), sorted({cell[0] for cell in wanted}))
                some["none"] += not wanted
                for level in program.levels():
                    found = heard_ends(program, starts, heard, level)
                    self.assertEqual(list(found), sorted(wanted))
                    for cell in found:
                        self.assertTrue(all(isinstance(cut[0], Ratio) for cut in found[cell]))
                        self.assertEqual(tuple(plain_cut(cut) for cut in found[cell]), wanted[cell][level])
                        some["met" if found[cell][1][1] else "approached"] += 1
        self.assertGreater(min(some.values()), 10)

    def plain_ends(self, program, starts, heard):
        """Return the ends of all levels in all cells, each history being led along by itself."""
        needed = plain_needed(program)
        here = []
        for cell in cells_met(program, starts):
            for start in starts:
                part = plain_part(program, needed, start, cell)
                if part is not None:
                    here.append((cell, part))
        for letter, answer in heard:
            behind = []
            for cell, part in here:
                for asked in program.letters() if letter is None else [letter]:
                    led, told, place = cell_step(program, cell, asked)
                    if told == answer:
                        moves = {level: program.move_of(place, level) for level in part}
                        behind.append((led, {level: (plain_image(moves[level], part[level][0], "lower"),
                                                     plain_image(moves[level], part[level][1], "upper")) for level in part}))
            here = [row for at, row in enumerate(behind) if row not in behind[:at]]
        found = {}
        for cell, part in here:
            known = found.setdefault(cell, dict(part))
            for level in part:
                known[level] = min(known[level][0], part[level][0]), max(known[level][1], part[level][1])
        return found

    def test_all_runs_of_short_histories(self):
        for seed, (program, _) in enumerate(cases()):
            chance = Chance(seed)
            starts = [chance.state(program) for _ in range(3)]
            for heard in heard_in(program, starts, seed):
                fit = self.fitting(program, starts, heard)
                for level in program.levels():
                    found = heard_ends(program, starts, heard, level)
                    for state in fit:
                        lower, upper = found[cell_of(program, (state[0], {name: Ratio(number.numerator, number.denominator) for name, number in state[1].items()}))]
                        self.assertTrue(plain_cut(lower) <= (state[1][level], False) and (state[1][level], True) <= plain_cut(upper))
                self.same(heard_modes(program, starts, heard), sorted({state[0] for state in fit}))

    def fitting(self, program, starts, heard):
        found = []
        for start, history in product(starts, product(program.letters(), repeat=len(heard))):
            here = plain_state(start)
            for (letter, answer), asked in zip(heard, history):
                if here is not None and letter in (None, asked):
                    here, told, _ = plain_step(program, here, asked)
                    here = here if told == answer else None
                else:
                    here = None
            if here is not None:
                found.append(here)
        return found

    def test_new_each_time(self):
        heard_ends(MUTE, STARTS, [], "x").clear()
        heard_modes(MUTE, STARTS, []).clear()
        self.same(heard_modes(MUTE, STARTS, []), ["open"])
        self.assertEqual(len(heard_ends(MUTE, STARTS, [], "x")), 1)


def plain_pairs(program, pairs, letter):
    """Return the pairs behind a letter, as a set: of those with equal answers."""
    found = set()
    for one, other in pairs:
        turn, second = cell_step(program, one, letter), cell_step(program, other, letter)
        if turn[1] == second[1]:
            found.add(tuple(sorted((turn[0], second[0]))))
    return frozenset(found)


def first_pairs(program, starts):
    met = cells_met(program, starts)
    return frozenset((one, other) for one in met for other in met if one <= other)


def is_told(pairs):
    return all(one[0] == other[0] for one, other in pairs)


class Telling(Checks):
    def test_mute(self):
        self.same(telling(MUTE, STARTS), [])
        self.same(telling(starts=ALL, program=MUTE), ["report"])
        self.same(telling(MUTE, [("open", {"x": 0}), ("mute", {"x": 0})]), ["report"])
        self.same(telling(MUTE, [("open", {"x": 3}), ("mute", {"x": 5})]), ["report"])
        for history, wanted in (([], False), (["tick"], True), (["report"], True), (["tick"] * 400, True)):
            self.assertIs(is_telling(MUTE, [("open", {"x": 3}), ("mute", {"x": 5})], history), wanted)
        self.assertIs(is_telling(history=("report",), starts=ALL, program=MUTE), True)

    def test_modes_that_sound_alike(self):
        self.same(telling(lights(), [("amber", {}), ("green", {})]), ["halt"])
        self.same(telling(lights(), [("amber", {}), ("red", {})]), ["go"])
        rules = {"go": [Rule("a", "no")], "halt": [Rule("a", "no")]}, {"go": [Rule("b", "no")], "halt": [Rule("b", "no")]}
        program = Program({}, {"a": rules[0], "b": rules[1]})
        self.same(telling(program, [("a", {}), ("b", {})]), None)
        self.same(telling(program, [("a", {})]), [])
        self.assertIs(is_telling(program, [("a", {}), ("b", {})], ["go"] * 9), False)

    def test_all_short_histories(self):
        many = {}
        for program, starts in cases() + [two_counters(3, 4), two_counters(2, 2), two_counters(3, 4, "zap")]:
            found = telling(program, starts)
            wanted = self.plain_telling(program, starts)
            self.same(found, wanted)
            many[found if found is None else len(found)] = many.get(found if found is None else len(found), 0) + 1
            for length in range(4):
                for history in product(program.letters(), repeat=length):
                    pairs = first_pairs(program, starts)
                    for letter in history:
                        pairs = plain_pairs(program, pairs, letter)
                    self.assertIs(is_telling(program, starts, list(history)), is_told(pairs))
        self.assertGreater(min(many[found] for found in (None, 0, 1)), 1)
        self.assertTrue([found for found in many if found is not None and found > 1])

    def plain_telling(self, program, starts):
        """Return the first history that tells the mode, by the sets of pairs themselves."""
        layer, seen = [(first_pairs(program, starts), [])], set()
        while layer:
            for pairs, history in layer:
                if is_told(pairs):
                    return history
            fresh = []
            for pairs, history in layer:
                for letter in program.letters():
                    found = plain_pairs(program, pairs, letter)
                    if found not in seen:
                        seen.add(found)
                        fresh.append((found, history + [letter]))
            layer = fresh
        return None

    def test_states_of_the_starts_not_cells_that_were_never_there(self):
        # What a pair of states hears differs, but the third one joins them: all three pairs are told by one letter.
        rules = {"a": {"go": [Rule("a", "one")], "run": [Rule("a", "no")]}, "b": {"go": [Rule("b", "two")], "run": [Rule("b", "no")]},
                 "c": {"go": [Rule("a", "two")], "run": [Rule("c", "no")]}}
        program = Program({}, rules)
        self.same(telling(program, [("a", {}), ("b", {})]), ["go"])
        self.same(telling(program, [("a", {}), ("b", {}), ("c", {})]), ["go", "go"])
        self.assertIs(is_telling(program, [("a", {}), ("b", {}), ("c", {})], ["go"]), False)

    def test_joined_programs(self):
        for one, other in ((lights(), lights()), (lights(), Program({}, {"a": {letter: [Rule("b", "x")] for letter in ("go", "halt")},
                                                                          "b": {letter: [Rule("a", "x")] for letter in ("go", "halt")}}))):
            program = side_by_side(one, other)
            starts = [(mode, {}) for mode in program.modes()]
            self.same(telling(program, starts), self.plain_telling(program, starts))
            self.same(heard_modes(program, starts, [("go", program.answers()[0])]),
                      sorted({plain_step(program, start, "go")[0][0] for start in starts if plain_step(program, start, "go")[1] == program.answers()[0]}))
        ears = Program({}, {"calm": {"stop": [Rule("calm", "hm")], "walk": [Rule("glad", "oh")]}, "glad": {letter: [Rule("glad", "oh")] for letter in ("stop", "walk")}})
        program = joined_behind(ears, lights())
        starts = [(mode, {}) for mode in program.modes()]
        self.same(telling(program, starts), self.plain_telling(program, starts))
        self.same(heard_modes(program, [("calm.red", {})], [("go", "hm"), ("go", "oh")]), ["glad.amber"])

    def test_new_each_time(self):
        telling(MUTE, ALL).clear()
        self.same(telling(MUTE, ALL), ["report"])


class Pairs(Checks):
    def test_groups_that_make_the_same_pairs(self):
        for one, other, are_same in (([(1, 2, 3)], [(1, 2), (1, 3), (2, 3)], True), ([(1, 2), (3,)], [(3,), (1,), (1, 2)], True), ([(1, 2), (2, 3)], [(1, 2, 3)], False),
                                     ([(1, 2), (3, 4)], [(1, 3), (2, 4)], False), ([(1,), (2,)], [(1, 2)], False), ([(1, 2, 3, 4)], [(1, 2, 3), (2, 3, 4), (1, 4)], True),
                                     ([(1, 2, 3, 4)], [(1, 2, 3), (2, 3, 4)], False)):
            self.assertIs(pairs_key(one) == pairs_key(other), are_same)

    def test_as_the_sets_of_pairs_themselves(self):
        chance = Chance(7).random
        families = [[tuple(sorted(chance.sample(range(4), chance.randint(1, 3)))) for _ in range(chance.randint(1, 4))] for _ in range(150)]
        rows = [(pairs_key(family), {(one, other) for group in family for one in group for other in group}) for family in families]
        for key, pairs in rows:
            for other_key, others in rows:
                self.assertIs(key == other_key, pairs == others)


def two_counters(many, more, tell=None):
    """Return a program with two modes that sound alike, in each of which another letter counts up.

    With the letter `tell` the modes are told from each other once both have counted to the end.
    """
    held, range_of_more = Range(0, many - 1), Range(0, more - 1)
    levels = {"x": held, "y": range_of_more}
    stay, asked = [Rule("a", "no")], [Rule("b", "no")]
    rules = {"a": {"one": [Rule("a", "no", when=[("x", "from", many - 1)]), Rule("a", "no", moves={"x": Move.adding(1, held)})], "two": stay},
             "b": {"one": asked, "two": [Rule("b", "no", when=[("y", "from", more - 1)]), Rule("b", "no", moves={"y": Move.adding(1, range_of_more)})]}}
    if tell:
        rules["a"]["zap"] = [Rule("a", "far", when=[("x", "from", many - 1)]), Rule("a", "no")]
        rules["b"]["zap"] = [Rule("b", "no")]
    return Program(levels, rules), [("a", {"x": 0, "y": 0}), ("b", {"x": 0, "y": 0})]


class Refused(Checks):
    def test_refused(self):
        for call in (heard_ends, heard_modes, telling, is_telling):
            more = {heard_ends: (None, None), heard_modes: (None,), telling: (), is_telling: (None,)}[call]
            for value in ODD_VALUES:
                self.refuses(InvalidProgram, {"value": value}, call, value, None, *more)
                self.refuses(InvalidStarts, {"position": 1}, call, MUTE, STARTS + [value], *more)
                if value != [1]:
                    self.refuses(InvalidStarts, {"position": None}, call, MUTE, value, *more)

    def test_heard(self):
        for call in (heard_ends, heard_modes):
            more = (None,) if call is heard_ends else ()
            for value in ODD_VALUES:
                if not isinstance(value, (list, tuple)):
                    self.refuses(InvalidHeard, {"position": None}, call, MUTE, STARTS, value, *more)
                self.refuses(InvalidHeard, {"position": 1}, call, MUTE, STARTS, [("tick", "open"), value, None], *more)
                if value is not None:
                    self.refuses(InvalidHeard, {"position": 0}, call, MUTE, STARTS, [(value, "open")], *more)
                if value != "x":
                    self.refuses(InvalidHeard, {"position": 0}, call, MUTE, STARTS, [("tick", value)], *more)
            for value in (["tick", "open"], ("tick", "open", "open"), ("tock", "open"), ("tick", "Open"), ("tick",), "tick"):
                self.refuses(InvalidHeard, {"position": 0}, call, MUTE, STARTS, (value,), *more)
            self.refuses(InvalidHeard, {"position": None}, call, MUTE, STARTS, [("tick", "open")] * 301, *more)
            self.refuses(InvalidHeard, {"position": None}, call, MUTE, STARTS, [None] * 301, *more)
        for value in ODD_VALUES:
            if value != "x":
                self.refuses(UnknownLevel, {"value": value}, heard_ends, MUTE, STARTS, [], value)
        self.same(heard_ends(MUTE, STARTS, [("tick", "open")] * 300, "x"), {("open", (0,)): ((Ratio(0), False), (Ratio(0), True))})
        self.same(heard_modes(MUTE, STARTS, [(None, "open")] * 300), ["open"])

    def test_histories(self):
        for value in ODD_VALUES:
            if not isinstance(value, (list, tuple)):
                self.refuses(InvalidHistory, {"position": None}, is_telling, MUTE, STARTS, value)
            self.refuses(InvalidHistory, {"position": 1}, is_telling, MUTE, STARTS, ["tick", value, None])

    def test_cuts_and_cells(self):
        for program, limit in ((counter(601), {"kind": "cuts", "limit": 600}), (grid_of(50, 61), {"kind": "cells", "limit": 3000})):
            starts = [("on", {level: 0 for level in program.levels()})]
            self.refuses(TooMany, limit, heard_ends, program, starts, [], "x")
            self.refuses(UnknownLevel, {"value": None}, heard_ends, program, starts, [], None)
            self.refuses(TooMany, limit, heard_modes, program, starts, [])
            self.refuses(InvalidHeard, {"position": None}, heard_modes, program, starts, None)
            self.refuses(TooMany, limit, telling, program, starts)
            self.refuses(TooMany, limit, is_telling, program, starts, [])
            self.refuses(InvalidHistory, {"position": None}, is_telling, program, starts, None)
        for program in (counter(600), grid_of(50, 60)):
            starts = [("on", {level: 0 for level in program.levels()})]
            self.same(telling(program, starts), [])
            self.same(heard_modes(program, starts, [(None, "no")] * 3), ["on"])
            self.assertEqual(len(heard_ends(program, starts, [(None, "no")] * 3, "x")), 4 if len(program.levels()) == 1 else 10)
            self.assertIs(is_telling(program, starts, ["ask"]), True)

    def test_sets(self):
        program, starts = two_counters(50, 80)
        self.same(telling(program, starts), None)
        for many, more in ((50, 81), (80, 51)):
            program, starts = two_counters(many, more)
            self.refuses(TooMany, {"kind": "sets", "limit": 4000}, telling, program, starts)
            self.assertIs(is_telling(program, starts, []), False)

    def test_sets_of_shorter_histories_alone(self):
        # The history that tells has 60 letters; the sets of all histories would be too many.
        program, starts = two_counters(60, 90, "zap")
        self.same(telling(program, starts), ["one"] * 59 + ["zap"])
        program, starts = two_counters(100, 90, "zap")
        self.refuses(TooMany, {"kind": "sets", "limit": 4000}, telling, program, starts)

    def test_sets_counted_by_their_pairs(self):
        for many in (87, 88, 89, 90, 91):
            program, starts = two_counters(200, 200, "zap")
            place = ("a", "zap")
            program = program.with_rules(*place, [Rule("a", "far", when=[("x", "from", many)]), Rule("a", "no")])
            # With fewer letters than `many` + 1 there are sets for all counts x + y of at most `many`.
            sets = (many + 1) * (many + 2) // 2
            if sets <= 4000:
                self.same(telling(program, starts), ["one"] * many + ["zap"])
            else:
                self.refuses(TooMany, {"kind": "sets", "limit": 4000}, telling, program, starts)


if __name__ == "__main__":
    unittest.main()
