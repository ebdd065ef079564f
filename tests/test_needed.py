"""Tests of fademodes.needed: needed cuts [14], closed families [15], reasons."""

import unittest

from examples import HELD, ODD_VALUES, Checks, mute
from fademodes.cuts import Range
from fademodes.errors import InvalidCut, InvalidProgram, TooMany, UnknownLevel, UnknownMode
from fademodes.moves import Move
from fademodes.needed import is_closed, is_why_needed, needed_cuts, why_needed
from fademodes.programs import Program, Rule
from fademodes.ratios import Ratio
from samples import Chance, counter, lights, plain_cut, plain_family, plain_needed, two_levels

MUTE = mute()


def just_below(*numbers):
    return [(Ratio(number), False) for number in numbers]


def one_rule_list(rules, held=HELD):
    """Return a program with one mode `on`, one letter `go` and a level x."""
    return Program({"x": held}, {"on": {"go": rules}})


def copied(family):
    return {mode: {level: list(family[mode][level]) for level in family[mode]} for mode in family}


def all_cuts(program):
    family = needed_cuts(program)
    return [(mode, level, cut) for mode in family for level in family[mode] for cut in family[mode][level]]


class NeededCuts(Checks):
    def test_mute(self):
        self.same(needed_cuts(MUTE), {"mute": {"x": just_below(2, 4, 8, 16)}, "open": {"x": just_below(4, 8, 16)}})
        self.same(needed_cuts(program=MUTE)["open"]["x"], just_below(4, 8, 16))

    def test_sides_of_conditions(self):
        rules = [Rule("on", "a", when=[("x", "from", 1)]), Rule("on", "b", when=[("x", "below", 2)]),
                 Rule("on", "c", when=[("x", "above", 3)]), Rule("on", "d", when=[("x", "to", 4)]), Rule("on", "e")]
        wanted = just_below(1, 2) + [(Ratio(3), True), (Ratio(4), True)]
        self.same(needed_cuts(one_rule_list(rules))["on"]["x"], wanted)

    def test_both_cuts_at_a_number_stand_once_and_in_sequence(self):
        rules = [Rule("on", "a", when=[("x", "above", 5), ("x", "to", Ratio(10, 2))]),
                 Rule("on", "b", when=[("x", "from", 5), ("x", "below", 5), ("x", "to", 1)]), Rule("on", "c")]
        self.same(needed_cuts(one_rule_list(rules))["on"]["x"], [(Ratio(1), True), (Ratio(5), False), (Ratio(5), True)])

    def test_conditions_at_the_ends_and_beyond(self):
        sides = ("from", "above", "to", "below")
        rules = [Rule("on", "a", when=[("x", side, number)]) for number in (-1, 17) for side in sides]
        self.same(needed_cuts(one_rule_list(rules + [Rule("on", "a")])), {"on": {"x": []}})
        rules = [Rule("on", "a", when=[("x", side, number)]) for number in (0, 16) for side in sides]
        self.same(needed_cuts(one_rule_list(rules + [Rule("on", "a")])), {"on": {"x": [(Ratio(0), True), (Ratio(16), False)]}})

    def test_a_range_of_one_number_has_none(self):
        rules = [Rule("on", "a", when=[("x", "from", 3), ("x", "to", 3)]), Rule("on", "a")]
        self.same(needed_cuts(one_rule_list(rules, Range(3, 3))), {"on": {"x": []}})

    def test_rules_behind_one_that_always_applies(self):
        rules = [Rule("on", "a"), Rule("on", "b", when=[("x", "from", 5)]),
                 Rule("on", "c", moves={"x": Move.dividing(3, HELD)}), Rule("on", "d")]
        self.same(needed_cuts(one_rule_list(rules))["on"]["x"], just_below(5, 15))

    def test_a_cut_led_back_to_an_end_or_beyond_is_not_needed(self):
        for move, wanted in ((Move.dividing(3, HELD), [6]), (Move.adding(6, HELD), [6]), (Move.adding(-11, HELD), [6]),
                             (Move.adding(-10, HELD), [6, 16]), (Move.adding(5, HELD), [1, 6]), (Move.setting(6), [6])):
            rules = [Rule("on", "a", when=[("x", "from", 6)]), Rule("on", "b", moves={"x": move})]
            self.same(needed_cuts(one_rule_list(rules))["on"]["x"], just_below(*wanted))

    def test_the_held_end_of_a_move_is_no_cut_of_its_own(self):
        rules = [Rule("on", "a", when=[("x", "above", 6)]), Rule("on", "b", moves={"x": Move(2, 1, 2, 7)})]
        self.same(needed_cuts(one_rule_list(rules))["on"]["x"], [(Ratio(6), True), (Ratio(11), True)])

    def test_modes_and_levels(self):
        program = two_levels()
        found = needed_cuts(program)
        self.assertEqual([list(found), list(found["off"]), list(found["on"])], [["off", "on"], ["x", "y"], ["x", "y"]])
        self.assertEqual(plain_family(found), plain_needed(program))
        self.assertIn((Ratio(3), True), found["on"]["x"])
        self.assertIn((Ratio(9), True), found["off"]["x"])

    def test_a_level_that_is_not_moved_stays(self):
        ask = [Rule("b", "yes", when=[("x", "to", 7), ("y", "from", 1)]), Rule("b", "no")]
        program = Program({"x": HELD, "y": Range(0, 2)}, {
            "a": {"go": [Rule("b", "no", moves={"y": Move.adding(1, Range(0, 2))})]}, "b": {"go": ask}})
        self.same(needed_cuts(program)["a"], {"x": [(Ratio(7), True)], "y": []})

    def test_without_levels(self):
        self.same(needed_cuts(lights()), {"amber": {}, "green": {}, "red": {}})

    def test_many_small_programs(self):
        for seed in range(60):
            program = Chance(seed).program(seed % 4)
            self.assertEqual(plain_family(needed_cuts(program)), plain_needed(program), seed)

    def test_what_is_returned_is_new_each_time(self):
        found = needed_cuts(MUTE)
        found["open"]["x"].append(1)
        found["open"]["y"] = found["shut"] = 1
        self.same(needed_cuts(MUTE), {"mute": {"x": just_below(2, 4, 8, 16)}, "open": {"x": just_below(4, 8, 16)}})

    def test_refused(self):
        for value in ODD_VALUES:
            self.refuses(InvalidProgram, {"value": value}, needed_cuts, value)

    def test_six_hundred_cuts(self):
        self.same(needed_cuts(counter(600))["on"]["x"], just_below(*range(1, 601)))
        for _ in range(2):
            self.refuses(TooMany, {"kind": "cuts", "limit": 600}, needed_cuts, counter(601))

    def test_very_many_cuts_are_not_all_looked_for(self):
        program = counter(10 ** 9, Ratio(1, 10 ** 6))
        self.refuses(TooMany, {"kind": "cuts", "limit": 600}, needed_cuts, program)

    def test_many_conditions(self):
        rules = {}
        for at, mode in enumerate(("a", "b")):
            whens = [[("x", "from", 400 * at + 8 * row + part) for part in range(1, 9)] for row in range(50)]
            rules[mode] = {"go": [Rule(mode, "no", when=when) for when in whens] + [Rule(mode, "no")]}
        self.refuses(TooMany, {"kind": "cuts", "limit": 600}, needed_cuts, Program({"x": Range(0, 1000)}, rules))
        half = Program({"x": Range(0, 1000)}, {"a": rules["a"]})
        self.same(needed_cuts(half)["a"]["x"], just_below(*range(1, 401)))


class ClosedFamilies(Checks):
    def test_needed_cuts_are_closed_and_least(self):
        for program in (MUTE, two_levels(), lights(), counter(30)):
            family = needed_cuts(program)
            self.assertIs(is_closed(program, family), True)
            for mode, level, cut in all_cuts(program):
                less = copied(family)
                less[mode][level].remove(cut)
                self.assertIs(is_closed(program, less), False)

    def test_more_cuts(self):
        family = needed_cuts(MUTE)
        for more, wanted in ((1, True), (3, False), (6, False), (12, True), (Ratio(1, 2), False)):
            family["mute"]["x"] = sorted(just_below(2, 4, 8, 16) + [(Ratio.of(more), False)], key=plain_cut)
            self.assertIs(is_closed(MUTE, family), wanted)
        family["open"]["x"] = just_below(4, 8, 12, 16)
        family["mute"]["x"] = just_below(2, 4, 8, 16)
        self.assertIs(is_closed(MUTE, family), False)
        family["mute"]["x"] = just_below(2, 4, 8, 12, 16)
        self.assertIs(is_closed(MUTE, family), True)

    def test_numbers_count_by_their_value_and_tuples_are_lists(self):
        family = {"open": {"x": ((4, False), (Ratio(8), False), (16, False))},
                  "mute": {"x": [(2, False), (Ratio(8, 2), False), (8, False), (16, False)]}}
        self.assertIs(is_closed(MUTE, family), True)
        self.assertIs(is_closed(family=family, program=MUTE), True)
        self.assertIs(is_closed(lights(), {"red": {}, "green": {}, "amber": {}}), True)

    def test_wrong_cuts(self):
        family = needed_cuts(MUTE)
        good = family["open"]["x"]
        rows = [good[::-1], good + good[-1:], good[:1] + good, [good[1], good[0], good[2]], good + [(16, True)],
                [(0, False)] + good, good + [(17, False)], [(-1, True)] + good, good + [None], [[4, False]] + good[1:],
                [(4, 0)] + good[1:], [(True, False)] + good, [("4", False)] + good[1:], None, "abc", {}, dict(enumerate(good))]
        for row in rows:
            family["open"]["x"] = row
            self.assertIs(is_closed(MUTE, family), False)
        family["open"]["x"] = good
        self.assertIs(is_closed(MUTE, family), True)

    def test_values_that_are_no_families(self):
        for value in ODD_VALUES:
            self.assertIs(is_closed(MUTE, value), False)
        family = needed_cuts(MUTE)
        for wrong in (list(family.items()), {"open": family["open"]}, {**family, "shut": family["open"]},
                      {**family, None: {}}, {**family, "open": None}, {**family, "open": {}}, {**family, "open": []},
                      {**family, "open": {**family["open"], "y": []}}, {**family, "open": {"y": family["open"]["x"]}},
                      {"mute": family["mute"], "Open": family["open"]}, {"mute": family["mute"], 1: family["open"]}):
            self.assertIs(is_closed(MUTE, wrong), False)
        self.assertIs(is_closed(lights(), {"red": {}, "green": {}}), False)
        self.assertIs(is_closed(lights(), {"red": {}, "green": {}, "amber": {"x": []}}), False)

    def test_refused_and_no_limit(self):
        for value in ODD_VALUES:
            self.refuses(InvalidProgram, {"value": value}, is_closed, value, None)
        self.assertIs(is_closed(counter(601), {"on": {"x": just_below(*range(1, 602))}}), True)
        self.assertIs(is_closed(counter(601), {"on": {"x": just_below(*range(2, 602))}}), False)


class Reasons(Checks):
    def test_every_needed_cut_has_a_reason(self):
        programs = [MUTE, two_levels(), counter(30)] + [Chance(seed).program(2) for seed in range(20)]
        for program in programs:
            for mode, level, cut in all_cuts(program):
                found = why_needed(program, mode, level, cut)
                self.assertIs(is_why_needed(program, mode, level, cut, found), True)
                self.assertIs(type(found), tuple)
                self.assertIs(type(found[0]), list)
                self.check_reason(program, mode, level, cut, found)

    def check_reason(self, program, mode, level, cut, reason):
        """Check a reason by the words of the document."""
        places, place, position = reason
        held = program.levels()[level]
        modes = [mode] + [program.rule(each).goal for each in places]
        self.assertEqual([each[0] for each in places] + [place[0]], modes)
        name, side, number = program.rule(place).when()[position]
        led = (number, side in ("above", "to"))
        self.assertTrue(name == level and held.is_inner(led))
        for each in reversed(places):
            led = program.move_of(each, level).back(led, held)
            self.assertTrue(held.is_inner(led))
        self.assertEqual(plain_cut(led), plain_cut(cut))

    def test_mute(self):
        self.same(why_needed(MUTE, "open", "x", (4, False)), ([], ("open", "report", 0), 0))
        self.same(why_needed(level="x", cut=(Ratio(2), False), mode="mute", program=MUTE), ([], ("mute", "tick", 0), 0))
        reason = ([("open", "tick", 0), ("open", "tick", 0)], ("open", "report", 0), 0)
        self.assertIs(is_why_needed(MUTE, "open", "x", (16, False), reason), True)
        other = ([("mute", "tick", 1)] * 2 + [("mute", "tick", 0)], ("open", "report", 0), 0)
        self.assertIs(is_why_needed(MUTE, "mute", "x", (16, False), other), True)
        self.assertIs(is_why_needed(value=other, cut=(16, False), level="x", mode="mute", program=MUTE), True)
        self.assertIs(is_why_needed(MUTE, "mute", "x", (Ratio(16), False), (tuple(other[0]),) + other[1:]), True)

    def test_cuts_that_are_not_needed(self):
        for cut in ((4, True), (2, False), (0, False), (16, True), (17, False), (-1, True), (Ratio(9, 2), False), (0, True)):
            self.same(why_needed(MUTE, "open", "x", cut), None)
            self.assertIs(is_why_needed(MUTE, "open", "x", cut, ([], ("open", "report", 0), 0)), False)

    def test_one_thing_otherwise(self):
        good = [("open", "tick", 0), ("open", "tick", 0)]
        ask = ("open", "report", 0)
        wrong = [(good, ask), (good, ask, 0, 0), [good, ask, 0], (good[:1], ask, 0), (good + good[:1], ask, 0),
                 ([], ask, 0), (good, ("open", "report", 1), 0), (good, ask, 1), (good, ask, -1), (good, ask, False),
                 (good, ask, None), (good, ("mute", "tick", 0), 0), (good, None, 0), (good, list(ask), 0), (None, ask, 0),
                 ({}, ask, 0), ("", ask, 0), (good[:1] + [None], ask, 0), ([good[0], ("mute", "tick", 1)], ask, 0),
                 ([("mute", "tick", 1), good[0]], ask, 0), ([good[0], ("open", "tick", 1)], ask, 0),
                 ([good[0], ("open", "tick", False)], ask, 0), ([good[0], ["open", "tick", 0]], ask, 0),
                 ([("open", "report", 1)] + good, ask, 0)]
        self.assertIs(is_why_needed(MUTE, "open", "x", (16, False), (good, ask, 0)), True)
        for value in wrong + list(ODD_VALUES):
            self.assertIs(is_why_needed(MUTE, "open", "x", (16, False), value), False)
        self.assertIs(is_why_needed(MUTE, "mute", "x", (16, False), (good, ask, 0)), False)
        self.assertIs(is_why_needed(MUTE, "open", "x", (16, True), (good, ask, 0)), False)
        self.assertIs(is_why_needed(MUTE, "open", "x", (8, False), (good, ask, 0)), False)

    def test_inner_each_time(self):
        held = Range(0, 10)
        rules = [Rule("on", "a", when=[("x", "from", 9)]), Rule("on", "b", moves={"x": Move.adding(-4, held)}),
                 Rule("on", "c", moves={"x": Move.adding(4, held)})]
        program = Program({"x": held}, {"on": {"go": rules}})
        up, down = ("on", "go", 2), ("on", "go", 1)
        ask = ("on", "go", 0)
        self.assertIs(is_why_needed(program, "on", "x", (9, False), ([up, down][::-1], ask, 0)), True)
        self.assertIs(is_why_needed(program, "on", "x", (9, False), ([up, down], ask, 0)), False)
        self.assertIs(is_why_needed(program, "on", "x", (6, False), ([up, down], ask, 0)), False)

    def test_the_condition_is_on_this_level(self):
        held = Range(0, 10)
        rules = [Rule("on", "a", when=[("x", "from", 4), ("y", "from", 4), ("y", "from", 10), ("y", "from", 12)]), Rule("on", "b")]
        program = Program({"x": held, "y": held}, {"on": {"go": rules}})
        found = [is_why_needed(program, "on", "y", (4, False), ([], ("on", "go", 0), position)) for position in range(5)]
        self.same(found, [False, True, False, False, False])
        self.assertIs(is_why_needed(program, "on", "y", (12, False), ([], ("on", "go", 0), 3)), False)
        self.same(why_needed(program, "on", "y", (4, False)), ([], ("on", "go", 0), 1))

    def test_new_each_time(self):
        why_needed(MUTE, "open", "x", (16, False))[0].append(1)
        self.assertEqual(len(why_needed(MUTE, "open", "x", (16, False))[0]), 2)

    def test_refused(self):
        for call in (why_needed, lambda *args: is_why_needed(*args, None)):
            for value in ODD_VALUES:
                self.refuses(InvalidProgram, {"value": value}, call, value, None, None, None)
            for value in ODD_VALUES + ("shut",):
                self.refuses(UnknownMode, {"value": value}, call, MUTE, value, None, None)
            for value in ODD_VALUES + ("y",):
                if value != "x":
                    self.refuses(UnknownLevel, {"value": value}, call, MUTE, "open", value, None)
            for value in ODD_VALUES + ((4, 0), [4, False], (True, False)):
                self.refuses(InvalidCut, {"value": value}, call, MUTE, "open", "x", value)

    def test_limit(self):
        much = counter(601)
        self.refuses(InvalidCut, {"value": None}, why_needed, much, "on", "x", None)
        self.refuses(TooMany, {"kind": "cuts", "limit": 600}, why_needed, much, "on", "x", (601, False))
        self.assertIs(is_why_needed(much, "on", "x", (601, False), ([], ("on", "ask", 0), 0)), True)
        way = [("on", "up", 0)] * 600
        self.assertIs(is_why_needed(much, "on", "x", (1, False), (way, ("on", "ask", 0), 0)), True)
        self.same(why_needed(counter(600), "on", "x", (1, False)), (way[1:], ("on", "ask", 0), 0))


if __name__ == "__main__":
    unittest.main()
