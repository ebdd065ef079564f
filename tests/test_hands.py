"""Tests of fademodes.hands: safe and forced states [30], choices and ranks [31], stretches of safe numbers."""

import unittest
from itertools import product

from examples import HELD, ODD_VALUES, Checks, mute
from fademodes.cells import cell_of, cell_step, cells, state_in
from fademodes.cuts import Range, is_within
from fademodes.errors import (
    InvalidBad, InvalidHand, InvalidPlace, InvalidProgram, InvalidState, TooMany, UnknownLevel)
from fademodes.hands import (
    choices, forced_within, is_choices, is_ranks, is_safe, ranks, safe_cells, safe_stretches, setting_stretches)
from fademodes.moves import Move
from fademodes.programs import Program, Rule
from fademodes.ratios import Ratio
from samples import Chance, counter, grid_of, lights, plain_state, plain_step, two_levels

MUTE = mute()
START = ("open", {"x": 0})
HANDS = ([], ["open"], ["mute"], ["open", "mute"])
BADS = ([], ["mute"], ["open"], ["open", "mute"], ["other"])
DEPTH = 6
NO_NAMES = tuple(value for value in ODD_VALUES if value != "x") + ("Open", "a.b.c", "muteanything")


def cases():
    """Return tuples (program, hand, bad) of small programs."""
    found = [(MUTE, hand, bad) for hand in HANDS for bad in BADS]
    for seed in range(50):
        chance = Chance(seed)
        program = chance.program(seed % 3)
        hand = [mode for mode in program.modes() if chance.random.random() < 0.5]
        found.append((program, hand, chance.random.choice((["u"], ["v"], ["u", "v"], []))))
    return found + [(two_levels(), ["on"], ["no"]), (two_levels(), ["off", "off"], ("yes",)), (two_levels(), [], ["yes"])]


class Ahead:
    """Within how many letters states are forced, by looking ahead through all short histories."""

    def __init__(self, program, hand, bad):
        self.program, self.hand, self.bad = program, hand, bad
        self.known = {}

    def is_forced(self, state, many):
        key = state[0], tuple(state[1].items()), many
        if key not in self.known:
            self.known[key] = many > 0 and self.looked(state, many)
        return self.known[key]

    def looked(self, state, many):
        found = []
        for letter in self.program.letters():
            behind, answer, _ = plain_step(self.program, state, letter)
            found.append(answer in self.bad or self.is_forced(behind, many - 1))
        return all(found) if state[0] in self.hand else any(found)

    def forced_within(self, state):
        return next((many for many in range(DEPTH + 1) if self.is_forced(state, many)), None)


def between(stretches, number):
    return any(is_within(number, stretch) for stretch in stretches)


def numbers_around(stretches, held):
    """Return numbers of a range at the ends of stretches, beside them and between them."""
    points = [held.low, held.high] + [cut[0] for stretch in stretches for cut in stretch]
    steps = (Ratio(0), Ratio(1, 1000), Ratio(-1, 1000), Ratio(1, 3), Ratio(-7, 5))
    return [point + step for point in points for step in steps if point + step in held]


class Safe(Checks):
    def test_mute(self):
        opens, mutes = [("open", (at,)) for at in range(4)], [("mute", (at,)) for at in range(5)]
        for hand, bad, wanted in (([], [], mutes + opens), ([], ["mute"], []), (["open"], ["mute"], opens), (["mute"], ["open"], mutes),
                                  (["open", "mute"], ["mute"], mutes[:1] + opens), (["open", "mute"], ["open"], mutes + opens[1:]),
                                  (["open"], ["open"], []), (["mute"], ["mute", "open"], []), ([], ["other"], mutes + opens)):
            self.same(safe_cells(MUTE, hand, bad), wanted)
            self.same(safe_cells(bad=tuple(bad), hand=tuple(hand), program=MUTE), wanted)

    def test_by_looking_ahead(self):
        many = {}
        for program, hand, bad in cases():
            ahead = Ahead(program, hand, bad)
            safe = safe_cells(program, hand, bad)
            self.assertEqual(safe, sorted(safe))
            for cell in list(cells(program)):
                state = state_in(program, cell)
                found, wanted = forced_within(program, state, hand, bad), ahead.forced_within(plain_state(state))
                self.same(found if found is None or found <= DEPTH else None, wanted)
                self.assertIs(is_safe(program, state, hand, bad), found is None)
                self.assertIs(cell in safe, found is None)
                many[found] = many.get(found, 0) + 1
        self.assertGreater(min(many[found] for found in (None, 1, 2, 3)), 10)

    def test_forced_in_mute(self):
        for number, hand, bad, wanted in ((0, [], ["mute"], 2), (4, [], ["mute"], 1), (4, ["open"], ["open"], 5), (0, ["open"], ["mute"], None),
                                          (16, ["open"], ["open"], 6), (0, [], [], None)):
            self.same(forced_within(MUTE, ("open", {"x": number}), hand, bad), wanted)
            self.same(is_safe(bad=bad, hand=hand, state=("open", {"x": number}), program=MUTE), wanted is None)
        self.same(forced_within(bad=["mute"], hand=[], state=START, program=MUTE), 2)

    def test_all_letters_must_be_bad_for_the_hand(self):
        program = Program({}, {"on": {"a": [Rule("on", "no")], "b": [Rule("on", "yes")]}})
        for hand, bad, wanted in ((["on"], ["no"], None), ([], ["no"], 1), (["on"], ["no", "yes"], 1), ([], ["yes"], 1), (["on"], [], None)):
            self.same(forced_within(program, ("on", {}), hand, bad), wanted)

    def test_the_most_letters_for_the_hand_and_the_fewest_for_the_world(self):
        rules = {"a": {"go": [Rule("b", "no")], "run": [Rule("c", "no")]}, "b": {letter: [Rule("c", "no")] for letter in ("go", "run")},
                 "c": {letter: [Rule("c", "bad")] for letter in ("go", "run")}}
        program = Program({}, rules)
        for hand, wanted in ((["a"], 3), ([], 2), (["a", "b", "c"], 3), (["b"], 2)):
            self.same(forced_within(program, ("a", {}), hand, ["bad"]), wanted)
            self.same(ranks(program, hand, ["bad"]), {("a", ()): wanted, ("b", ()): 2, ("c", ()): 1})


class Choices(Checks):
    def test_for_all_safe_cells(self):
        for program, hand, bad in cases():
            found = choices(program, hand, bad)
            self.same(list(found), safe_cells(program, hand, bad))
            self.assertIs(is_choices(program, hand, bad, found), True)
            for cell, letter in found.items():
                self.assertIs(letter is None, cell[0] not in hand)
                for asked in [letter] if cell[0] in hand else program.letters():
                    behind, answer, _ = cell_step(program, cell, asked)
                    self.assertTrue(answer not in bad and behind in found)

    def test_mute(self):
        self.same(choices(bad=["mute"], hand=["open"], program=MUTE),
                  {("open", (0,)): choices(MUTE, ["open"], ["mute"])["open", (0,)], ("open", (1,)): "tick", ("open", (2,)): "tick", ("open", (3,)): "tick"})
        self.same(choices(MUTE, [], ["mute"]), {})

    def test_one_thing_otherwise(self):
        good = {("open", (0,)): "tick", ("open", (1,)): "tick"}
        check = (MUTE, ["open"], ["mute"])
        self.assertIs(is_choices(*check, good), True)
        self.assertIs(is_choices(value={}, bad=["mute"], hand=["open"], program=MUTE), True)
        self.assertIs(is_choices(*check, {("open", (0,)): "tick"}), True)
        self.assertIs(is_choices(*check, {("open", (1,)): "tick"}), False)
        self.assertIs(is_choices(*check, {**good, ("open", (0,)): "report"}), False)
        self.assertIs(is_choices(*check, {**good, ("open", (0,)): "report", ("open", (2,)): "tick"}), True)
        for value in (None, "report", "tock", True, 0, ["tick"], ("tick",), {}, Ratio(1), object()):
            self.assertIs(is_choices(*check, {**good, ("open", (1,)): value}), False)
        for key in (("open", (9,)), ("mute", (0,)), ("open", ()), "open", None, 1, True, (), ("open", (0,), 0), ("open", "0")):
            self.assertIs(is_choices(*check, {**good, key: "tick"}), False)
        self.assertIs(is_choices(*check, {("open", (False,)): "tick"}), False)
        for value in ODD_VALUES + (list(good), list(good.items())):
            self.assertIs(is_choices(*check, value), value == {})

    def test_the_world(self):
        world = {("open", (0,)): None, ("open", (2,)): None, ("mute", (3,)): None, ("mute", (4,)): None}
        everywhere = {cell: None for cell in cells(MUTE)}
        self.assertIs(is_choices(MUTE, [], ["other"], everywhere), True)
        self.assertIs(is_choices(MUTE, [], ["mute"], everywhere), False)
        self.assertIs(is_choices(MUTE, [], ["other"], world), False)
        self.assertIs(is_choices(MUTE, [], ["other"], {**everywhere, ("open", (0,)): "tick"}), False)
        for cell in everywhere:
            less = {key: None for key in everywhere if key != cell}
            is_led_to = any(cell_step(MUTE, key, letter)[0] == cell for key in less for letter in MUTE.letters())
            self.assertIs(is_choices(MUTE, [], [], less), not is_led_to)

    def test_new_each_time(self):
        choices(MUTE, ["open"], ["mute"]).clear()
        safe_cells(MUTE, ["open"], ["mute"]).clear()
        self.assertEqual(len(choices(MUTE, ["open"], ["mute"])), 4)
        self.assertEqual(len(safe_cells(MUTE, ["open"], ["mute"])), 4)


class Ranks(Checks):
    def test_for_all_cells_that_are_not_safe(self):
        for program, hand, bad in cases():
            found = ranks(program, hand, bad)
            safe = safe_cells(program, hand, bad)
            self.same(list(found), [cell for cell in cells(program) if cell not in safe])
            self.same(found, {cell: forced_within(program, state_in(program, cell), hand, bad) for cell in found})
            self.assertIs(is_ranks(program, hand, bad, found), True)
            self.assertIs(is_ranks(program, hand, bad, {cell: 2 * rank for cell, rank in found.items()}), True)
            for cell, rank in found.items():
                self.assertIs(is_ranks(program, hand, bad, {**found, cell: rank - 1}), False)

    def test_mute(self):
        self.same(ranks(bad=["open"], hand=["open"], program=MUTE),
                  {("mute", (0,)): 1, ("mute", (1,)): 2, ("mute", (2,)): 3, ("mute", (3,)): 4, ("mute", (4,)): 5,
                   ("open", (0,)): 1, ("open", (1,)): 5, ("open", (2,)): 6, ("open", (3,)): 6})

    def test_one_thing_otherwise(self):
        good = {("open", (0,)): 2, ("open", (2,)): 1}
        check = (MUTE, [], ["mute"])
        self.assertIs(is_ranks(*check, good), True)
        self.assertIs(is_ranks(value={}, bad=["mute"], hand=[], program=MUTE), True)
        for value, wanted in ((1, False), (0, False), (-2, False), (3, True), (10 ** 40, True), (None, False), (True, False), ("2", False),
                              (Ratio(2), False), ([2], False), ((), False)):
            self.assertIs(is_ranks(*check, {**good, ("open", (0,)): value}), wanted)
        self.assertIs(is_ranks(*check, {("open", (0,)): 2}), False)
        self.assertIs(is_ranks(*check, {("open", (2,)): 1}), True)
        self.assertIs(is_ranks(*check, {**good, ("open", (2,)): 2}), False)
        for key in (("open", (9,)), ("open", ()), "open", None, 1, True, (), ("shut", (0,))):
            self.assertIs(is_ranks(*check, {**good, key: 1}), False)
        self.assertIs(is_ranks(*check, {("open", (True,)): 1}), False)
        for value in ODD_VALUES + (list(good), list(good.items())):
            self.assertIs(is_ranks(*check, value), value == {})

    def test_every_letter_for_the_hand(self):
        hand = {("open", (0,)): 1, ("mute", (0,)): 1}
        self.assertIs(is_ranks(MUTE, ["open"], ["open"], hand), True)
        self.assertIs(is_ranks(MUTE, ["open", "mute"], ["open"], hand), False)
        self.assertIs(is_ranks(MUTE, ["open", "mute"], ["open"], {("open", (0,)): 1}), True)

    def test_new_each_time(self):
        ranks(MUTE, [], ["mute"]).clear()
        self.assertEqual(len(ranks(MUTE, [], ["mute"])), 9)


class Stretches(Checks):
    def check_longest(self, stretches, held):
        """Check that stretches lie within a range, in sequence, and do not touch each other."""
        for stretch in stretches:
            self.assertTrue(held.has_stretch(stretch))
        for one, other in zip(stretches, stretches[1:]):
            self.assertTrue(one[1][0].is_below(other[0][0]) or (one[1][0] == other[0][0] and not one[1][1] and other[0][1]))

    def test_mute(self):
        whole = (Ratio(0), False), (Ratio(16), True)
        for state, hand, bad, wanted in ((START, [], [], [whole]), (START, [], ["mute"], []), (START, ["open", "mute"], ["open"], [((Ratio(4), False), whole[1])]),
                                         (("mute", {"x": 9}), ["open", "mute"], ["mute"], [(whole[0], (Ratio(2), False))])):
            self.same(safe_stretches(MUTE, state, "x", hand, bad), wanted)
        self.same(safe_stretches(bad=[], hand=[], level="x", state=START, program=MUTE), [whole])

    def test_small_programs(self):
        many = {}
        for seed, (program, hand, bad) in enumerate(cases()):
            mode, numbers = Chance(seed).state(program)
            for level, held in program.levels().items():
                found = safe_stretches(program, (mode, numbers), level, hand, bad)
                self.check_longest(found, held)
                many[len(found)] = many.get(len(found), 0) + 1
                for number in numbers_around(found, held):
                    self.assertIs(is_safe(program, (mode, {**numbers, level: number}), hand, bad), between(found, number))
        self.assertGreater(many[1], 20)

    def test_several_stretches(self):
        ask = [Rule("on", "no", when=[("x", "below", 2)]), Rule("on", "yes", when=[("x", "to", 3)]), Rule("on", "yes", when=[("x", "from", 5), ("x", "to", 5)]), Rule("on", "no")]
        program = Program({"x": HELD}, {"on": {"ask": ask}})
        low, high = (Ratio(0), False), (Ratio(16), True)
        self.same(safe_stretches(program, ("on", {"x": 0}), "x", [], ["no"]), [((Ratio(2), False), (Ratio(3), True)), ((Ratio(5), False), (Ratio(5), True))])
        self.same(safe_stretches(program, ("on", {"x": 0}), "x", [], ["yes"]),
                  [(low, (Ratio(2), False)), ((Ratio(3), True), (Ratio(5), False)), ((Ratio(5), True), high)])

    def test_setting_in_small_programs(self):
        many = {}
        for seed, (program, hand, bad) in enumerate(cases()):
            chance = Chance(seed)
            state = chance.state(program)
            places = list(program.places())
            for place, (level, held) in product(chance.random.sample(places, min(len(places), 4)), program.levels().items()):
                found = setting_stretches(program, state, place, level, hand, bad)
                self.check_longest(found, held)
                for number in numbers_around(found, held):
                    self.assertIs(is_safe(self.set_to(program, place, level, number), state, hand, bad), between(found, number))
                key = "all" if found == [held.outer()] else "none" if not found else "some"
                many[key] = many.get(key, 0) + 1
        self.assertGreater(min(many["all"], many["none"]), 20)
        self.assertGreater(many["some"], 3)

    def set_to(self, program, place, level, number):
        mode, letter, position = place
        rules = program.rules(mode, letter)
        rules[position] = rules[position].changed(moves={**rules[position].moves(), level: Move.setting(number)})
        return program.with_rules(mode, letter, rules)

    def test_setting_in_mute(self):
        # Behind a report the level is set: below 4 the next report does not mute.
        place, low, high = ("open", "report", 1), (Ratio(0), False), (Ratio(16), True)
        self.same(setting_stretches(MUTE, START, place, "x", [], ["mute"]), [(low, (Ratio(4), False))])
        self.same(setting_stretches(bad=["mute"], hand=["open"], level="x", place=place, state=START, program=MUTE), [(low, high)])
        self.same(setting_stretches(MUTE, ("mute", {"x": 0}), place, "x", [], ["mute"]), [])

    def test_a_rule_that_does_not_move_the_level(self):
        place = ("mute", "tick", 0)
        program = MUTE.with_rules("open", "tick", [Rule("open", "high", when=[("x", "above", 1)]), Rule("open", "low")])
        found = setting_stretches(program, ("mute", {"x": 0}), place, "x", ["open", "mute"], ["high", "mute"])
        self.assertEqual(MUTE.rule(place).moves(), {})
        self.same(found, [((Ratio(0), False), (Ratio(1), True))])
        for number in numbers_around(found, HELD):
            self.assertIs(is_safe(self.set_to(program, place, "x", number), ("mute", {"x": 0}), ["open", "mute"], ["high", "mute"]), between(found, number))
        self.same(safe_stretches(program, ("mute", {"x": 0}), "x", ["open", "mute"], ["high", "mute"]), [((Ratio(0), False), (Ratio(1), True))])

    def test_a_range_with_one_number(self):
        program = Program({"x": Range(3, 3)}, {"on": {"go": [Rule("on", "no")]}})
        one = ((Ratio(3), False), (Ratio(3), True))
        self.same(safe_stretches(program, ("on", {"x": 3}), "x", [], []), [one])
        self.same(setting_stretches(program, ("on", {"x": 3}), ("on", "go", 0), "x", [], []), [one])
        self.same(setting_stretches(program, ("on", {"x": 3}), ("on", "go", 0), "x", [], ["no"]), [])


class Refused(Checks):
    PLACE = ("open", "report", 0)

    def calls(self):
        """Return tuples (call with hand and bad, what it is passed ahead of them)."""
        return ((safe_cells, (MUTE,)), (is_safe, (MUTE, START)), (forced_within, (MUTE, START)), (safe_stretches, (MUTE, START, "x")),
                (setting_stretches, (MUTE, START, self.PLACE, "x")), (choices, (MUTE,)), (ranks, (MUTE,)))

    def test_hands_and_answers(self):
        for call, ahead in self.calls():
            for value in ODD_VALUES:
                if not isinstance(value, (list, tuple)):
                    self.refuses(InvalidHand, {"position": None}, call, *ahead, value, None)
                    self.refuses(InvalidBad, {"position": None}, call, *ahead, [], value)
                self.refuses(InvalidHand, {"position": 1}, call, *ahead, ["open", value, "shut"], None)
                self.refuses(InvalidHand, {"position": 0}, call, *ahead, (value,), None)
            for value in NO_NAMES:
                self.refuses(InvalidBad, {"position": 1}, call, *ahead, ["open"], ["open", value, None])
            self.refuses(InvalidHand, {"position": None}, call, *ahead, "open", None)
            self.refuses(InvalidHand, {"position": 1}, call, *ahead, ["open", "shut"], [])

    def test_what_is_ahead_of_them(self):
        for call, ahead in self.calls() + ((is_choices, (MUTE,)), (is_ranks, (MUTE,))):
            more = (None,) * (3 if call in (is_choices, is_ranks) else 2)
            for value in ODD_VALUES:
                self.refuses(InvalidProgram, {"value": value}, call, value, *ahead[1:], *more)
                if len(ahead) > 1:
                    self.refuses(InvalidState, {"value": value}, call, MUTE, value, *[None for _ in ahead[2:]], *more)
                if len(ahead) > 3:
                    self.refuses(InvalidPlace, {"value": value}, call, MUTE, START, value, None, *more)
                if len(ahead) > 2 and value != "x":
                    self.refuses(UnknownLevel, {"value": value}, call, *ahead[:-1], value, *more)

    def test_checks(self):
        for call in (is_choices, is_ranks):
            for value in ODD_VALUES:
                if not isinstance(value, (list, tuple)):
                    self.refuses(InvalidHand, {"position": None}, call, MUTE, value, None, None)
                    self.refuses(InvalidBad, {"position": None}, call, MUTE, [], value, None)
            self.refuses(InvalidHand, {"position": 0}, call, MUTE, ["shut"], None, None)
            self.refuses(InvalidBad, {"position": 0}, call, MUTE, [], [None], None)

    def test_cuts(self):
        few, much, state, place = counter(600), counter(601), ("on", {"x": 0}), ("on", "up", 0)
        for call, ahead in ((safe_cells, ()), (is_safe, (state,)), (forced_within, (state,)), (safe_stretches, (state, "x")),
                            (setting_stretches, (state, place, "x")), (choices, ()), (ranks, ())):
            self.refuses(TooMany, {"kind": "cuts", "limit": 600}, call, much, *ahead, [], [])
            self.refuses(InvalidBad, {"position": None}, call, much, *ahead, [], None)
        for call in (is_choices, is_ranks):
            self.refuses(TooMany, {"kind": "cuts", "limit": 600}, call, much, [], [], None)
            self.assertIs(call(few, [], [], {}), True)
        self.same(forced_within(few, state, [], ["yes"]), 601)
        self.same(safe_stretches(few, state, "x", ["on"], ["yes"]), [((Ratio(0), False), (Ratio(600), True))])
        self.same(setting_stretches(few, state, place, "x", [], ["yes"]), [((Ratio(0), False), (Ratio(600), False))])

    def test_cells(self):
        few, much, state = grid_of(50, 60), grid_of(50, 61), ("on", {"x": 0, "y": 0})
        for call, ahead in ((safe_cells, ()), (is_safe, (state,)), (forced_within, (state,)), (safe_stretches, (state, "x")),
                            (setting_stretches, (state, ("on", "upx", 0), "x")), (choices, ()), (ranks, ())):
            self.refuses(TooMany, {"kind": "cells", "limit": 3000}, call, much, *ahead, [], [])
        self.assertIs(is_ranks(much, [], ["yes"], {("on", (49, 60)): 1, ("on", (48, 60)): 2}), True)
        self.same(forced_within(few, state, [], ["yes"]), 49 + 59 + 1)
        self.same(len(ranks(few, [], ["yes"])), 3000)
        # Only what is come to counts for a state.
        self.same(forced_within(much, ("on", {"x": 10, "y": 10}), [], ["yes"]), 39 + 50 + 1)
        self.same(cell_of(much, state), ("on", (0, 0)))

    def test_without_levels(self):
        self.same(ranks(lights(), ["amber", "green"], ["stop"]), {("red", ()): 1})
        self.same(safe_cells(lights(), ["amber", "green"], ["stop"]), [("amber", ()), ("green", ())])
        self.same(ranks(lights(), ["amber"], ["stop"]), {("amber", ()): 2, ("green", ()): 1, ("red", ()): 1})


if __name__ == "__main__":
    unittest.main()
