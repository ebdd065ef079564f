"""Tests of fademodes.programs: rules and programs [11], with the conventions [2]."""

import unittest

from examples import HELD, NO_NUMBERS, ODD_VALUES, Checks, mute
from fademodes.cuts import Range
from fademodes.errors import (
    InvalidLevels, InvalidModes, InvalidName, InvalidNumber, InvalidPlace, InvalidPosition, InvalidProgram,
    InvalidRule, InvalidRules, OtherLetters, TooMany, UnknownLetter, UnknownLevel, UnknownMode)
from fademodes.moves import Move
from fademodes.programs import Program, Rule, check_program, check_same_letters, condition_cut
from fademodes.ratios import Ratio

NAMES = ("a", "abcdefgh", "mute.red", "a.b", "abcdefgh.abcdefgh")
NO_NAMES = tuple(value for value in ODD_VALUES if value != "x") + (
    "abcdefghi", "A", "a1", "a b", "a.", ".a", "a.b.c", "a..b", "abcdefghi.a", "a.abcdefghi", " a", "a\n", "a_b", 1)
WORDS = [first + second for first in "abcdefgh" for second in "abcdefgh"]
STAY = Rule("on", "yes")


def small(**parts):
    """Return a program with one mode `on` and one letter `go`."""
    return Program(parts.get("levels", {"x": HELD}), {"on": {"go": parts.get("rules", [STAY])}})


class Rules(Checks):
    def test_parts(self):
        move = Move(2, 0, 0, 16)
        rule = Rule("mute.red", "yes", when=[("x", "from", 4), ("y", "below", Ratio(1, 2))], moves={"y": move, "x": move})
        self.same((rule.goal, rule.answer), ("mute.red", "yes"))
        self.same(rule.when(), (("x", "from", Ratio(4)), ("y", "below", Ratio(1, 2))))
        self.assertEqual(rule.moves(), {"x": move, "y": move})
        self.assertEqual(list(rule.moves()), ["x", "y"])
        plain = Rule(answer="a", goal="b")
        self.same((plain.goal, plain.answer, plain.when(), plain.moves()), ("b", "a", (), {}))

    def test_when_and_moves_only_by_name(self):
        self.assertRaises(TypeError, Rule, "a", "b", ())

    def test_names(self):
        for name in NAMES:
            self.assertEqual((Rule(name, "a").goal, Rule("a", name).answer), (name, name))
        for value in NO_NAMES:
            self.refuses(InvalidName, {"value": value}, Rule, value, None)
            self.refuses(InvalidName, {"value": value}, Rule, "a", value, when=None)

    def test_when_refused(self):
        for value in ODD_VALUES:
            if value not in ([1], [], ()):
                self.refuses(InvalidRule, {"part": "when", "position": None}, Rule, "a", "b", when=value, moves=1)
        good = ("x", "from", 1)
        wrong = [None, (), ("x", "from"), ["x", "from", 1], ("x", "from", 1, 1), (1, "from", 1), ("X", "from", 1),
                 ("x", "From", 1), ("x", "at", 1), ("x", None, 1), ("x", [], 1), ("x", "from", "1"), "abc"]
        wrong += [("x", "from", value) for value in NO_NUMBERS]
        for value in wrong:
            self.refuses(InvalidRule, {"part": "when", "position": 0}, Rule, "a", "b", when=[value, None], moves=1)
            self.refuses(InvalidRule, {"part": "when", "position": 2}, Rule, "a", "b", when=(good, good, value) * 9)

    def test_moves_refused(self):
        move = Move(1, 0, 0, 1)
        for value in ODD_VALUES + ([("x", move)], {"x": move, 1: move}, {"X": move}, {"x.": 1}, {"a": 1, None: move}):
            if value not in (None, {}, {"x": 1}):
                self.refuses(InvalidRule, {"part": "moves", "position": None}, Rule, "a", "b", moves=value)
        for value in ODD_VALUES + ((1, 0, 0, 1),):
            found = {"y": value, "z": None, "x": move}
            self.refuses(InvalidRule, {"part": "moves", "position": "y"}, Rule, "a", "b", moves=found)
        self.refuses(InvalidRule, {"part": "moves", "position": "a"}, Rule, "a", "b", moves={"b": 1, "a": 1})

    def test_eight_conditions(self):
        good = ("x", "from", 1)
        self.assertEqual(len(Rule("a", "b", when=[good] * 8).when()), 8)
        self.refuses(TooMany, {"kind": "conditions", "limit": 8}, Rule, "a", "b", when=[good] * 9)
        self.refuses(InvalidRule, {"part": "moves", "position": None}, Rule, "a", "b", when=[good] * 9, moves=1)
        self.refuses(InvalidRule, {"part": "when", "position": 8}, Rule, "a", "b", when=[good] * 8 + [1])

    def test_applies(self):
        truths = {"from": (False, True, True), "above": (False, False, True),
                  "to": (True, True, False), "below": (True, False, False)}
        for side, wanted in truths.items():
            for place in (4, Ratio(4)):
                rule = Rule("a", "b", when=[("x", side, place)])
                self.same(tuple([rule.applies({"x": number}) for number in (Ratio(39, 10), 4, Ratio(41, 10))]), wanted)
                self.assertIs(rule.applies(levels={"x": Ratio(4)}), wanted[1])
        both = Rule("a", "b", when=[("x", "from", 4), ("y", "to", 1)])
        found = [both.applies({"x": x, "y": y, "z": 9}) for x in (3, 4) for y in (1, 2)]
        self.same(found, [False, False, True, False])
        self.assertIs(STAY.applies({}), True)

    def test_applies_lacks_a_level(self):
        rule = Rule("a", "b", when=[("y", "from", 4), ("z", "to", 1), ("x", "to", 1)])
        self.refuses(UnknownLevel, {"value": "y"}, rule.applies, {})
        self.refuses(UnknownLevel, {"value": "z"}, rule.applies, {"y": 0})
        self.refuses(UnknownLevel, {"value": "x"}, rule.applies, {"y": 0, "z": 0})

    def test_changed(self):
        move = Move(2, 0, 0, 16)
        rule = Rule("a", "b", when=[("x", "from", 4)], moves={"x": move})
        self.assertEqual(rule.changed(), rule)
        self.assertEqual(rule.changed(goal="c"), Rule("c", "b", when=rule.when(), moves=rule.moves()))
        self.assertEqual(rule.changed(answer="c"), Rule("a", "c", when=rule.when(), moves=rule.moves()))
        self.assertEqual(rule.changed(when=()), Rule("a", "b", moves={"x": move}))
        self.assertEqual(rule.changed(moves=None), Rule("a", "b", when=rule.when()))
        self.assertEqual(rule.changed(goal="c", moves={}, answer="d", when=[]), Rule("c", "d"))
        self.assertEqual(rule.goal, "a")

    def test_changed_refused(self):
        self.refuses(InvalidName, {"value": "aa"}, STAY.changed, zz=1, aa=2, goal=3)
        self.refuses(InvalidName, {"value": "sides"}, STAY.changed, when=3, sides=1)
        self.refuses(InvalidName, {"value": None}, STAY.changed, goal=None, answer=2)
        self.refuses(InvalidRule, {"part": "when", "position": None}, STAY.changed, moves=3, when=3)
        self.refuses(TooMany, {"kind": "conditions", "limit": 8}, STAY.changed, when=[("x", "to", 1)] * 9)

    def test_equality(self):
        move = Move(2, 0, 0, 16)
        rule = Rule("a", "b", when=[("x", "from", 4), ("y", "to", 2)], moves={"x": move, "y": move})
        same = Rule("a", "b", when=(("x", "from", Ratio(4)), ("y", "to", 2)), moves={"y": move, "x": Move(2, 0, 0, 16)})
        self.assertTrue(rule == same)
        self.assertFalse(rule != same)
        others = (rule.changed(goal="c"), rule.changed(answer="c"), rule.changed(when=reversed_tuple(rule.when())),
                  rule.changed(moves={"x": move}), rule.changed(when=[("x", "from", 5), ("y", "to", 2)]), "a", None)
        for other in others:
            self.assertFalse(rule == other)
            self.assertTrue(rule != other)
        self.assertEqual(Rule("a", "b", moves={}), Rule("a", "b"))

    def test_copies(self):
        when, moves = [("x", "from", 4)], {"x": Move(2, 0, 0, 16)}
        rule = Rule("a", "b", when=when, moves=moves)
        when.append(1)
        moves["y"] = 2
        rule.moves().clear()
        self.same((len(rule.when()), list(rule.moves())), (1, ["x"]))
        for name in ("goal", "answer"):
            with self.assertRaises(AttributeError):
                setattr(rule, name, "c")

    def test_condition_cut(self):
        cuts = [condition_cut(("x", side, Ratio(3))) for side in ("from", "above", "to", "below")]
        self.same(cuts, [(Ratio(3), False), (Ratio(3), True), (Ratio(3), True), (Ratio(3), False)])


def reversed_tuple(values):
    return tuple(reversed(values))


class Making(Checks):
    def test_levels_refused(self):
        for value in ODD_VALUES + ([("x", HELD)], {"X": HELD}, {"x": HELD, 1: HELD}, {"x": 1, "y!": HELD}):
            if value not in ({}, {"x": 1}):
                self.refuses(InvalidLevels, {"key": None}, Program, value, None)
        four = {"w": 1, "x": HELD, "y": HELD, "z": HELD}
        self.refuses(InvalidLevels, {"key": None}, Program, four, None)
        for value in ODD_VALUES[:-1] + ((0, 16),):
            self.refuses(InvalidLevels, {"key": "b"}, Program, {"c": 1, "b": value, "a": HELD}, None)

    def test_up_to_three_levels(self):
        self.assertEqual(small(levels={}).levels(), {})
        self.assertEqual(list(small(levels={"z": HELD, "x.y": HELD, "a": HELD}).levels()), ["a", "x.y", "z"])

    def test_modes_refused(self):
        table = {"go": [STAY]}
        for value in ODD_VALUES + ({"On": table}, {"on": table, 1: table}, [("on", table)], {"on": 1, "": table}):
            if value != {"x": 1}:
                self.refuses(InvalidModes, {"key": None}, Program, {}, value)
        for value in ODD_VALUES + ({"Go": [STAY]}, {1: [STAY]}, {"go": [], None: []}):
            if value != {"x": 1}:
                self.refuses(InvalidModes, {"key": "on"}, Program, {}, {"z": 1, "on": value, "a": table})
                self.refuses(InvalidModes, {"key": "on"}, Program, {}, {"z": 1, "on": value})
        for other in ({"stop": [STAY]}, {"go": [STAY], "stop": [STAY]}):
            self.refuses(InvalidModes, {"key": "on"}, Program, {}, {"z": {}, "on": other, "a": table})
        self.refuses(InvalidModes, {"key": "b"}, Program, {}, {"a": {"x": 1, "y": 1}, "b": {"x": 1}})

    def test_rules_refused(self):
        for value in ODD_VALUES:
            if value != [1]:
                fields = {"mode": "a", "letter": "go", "position": None}
                self.refuses(InvalidRules, fields, Program, {}, {"b": {"go": 1}, "a": {"go": value}})
        there = Range(0, 8)
        wrong = (None, "on", ("on", "yes"), Rule("off", "yes"), Rule("on", "yes", when=[("y", "from", 1)]),
                 Rule("on", "yes", moves={"y": Move.staying(there)}), Rule("on", "yes", moves={"x": Move(1, 0, -1, 8)}),
                 Rule("on", "yes", moves={"x": Move(1, 0, 0, Ratio(17, 2))}), Rule("on", "yes", moves={"x": Move.setting(9)}))
        for value in wrong:
            for position in (0, 1, 2):
                rules = [STAY] * position + [value, None]
                fields = {"mode": "on", "letter": "go", "position": position}
                self.refuses(InvalidRules, fields, small, levels={"x": there}, rules=rules)

    def test_the_last_rule_has_no_condition(self):
        asking = Rule("on", "yes", when=[("x", "from", 99)])
        self.refuses(InvalidRules, {"mode": "on", "letter": "go", "position": 0}, small, rules=[asking])
        self.refuses(InvalidRules, {"mode": "on", "letter": "go", "position": 2}, small, rules=(asking, STAY, asking))
        self.assertEqual(small(rules=(asking, STAY)).rules("on", "go"), [asking, STAY])

    def test_the_first_list_in_sorted_sequence(self):
        table = {"b": {"d": 1, "c": [STAY]}, "a": {"d": [], "c": [STAY, 1]}, "on": {"c": 1, "d": 1}}
        self.refuses(InvalidRules, {"mode": "a", "letter": "c", "position": 1}, Program, {}, table)
        table["a"]["c"] = [STAY]
        self.refuses(InvalidRules, {"mode": "a", "letter": "d", "position": None}, Program, {}, table)

    def test_moves_at_the_ends_of_the_range(self):
        whole = Rule("on", "yes", moves={"x": Move(9, 1, 0, 16)})
        self.assertEqual(small(rules=[whole]).rules("on", "go"), [whole])

    def test_limits(self):
        table = {"go": [Rule("aa", "yes")]}
        self.assertEqual(len(Program({}, {word: table for word in WORDS[:40]}).modes()), 40)
        self.refuses(TooMany, {"kind": "modes", "limit": 40}, Program, {}, {word: table for word in WORDS[:41]})
        six = {word: [STAY] for word in WORDS[:6]}
        self.assertEqual(Program({}, {"on": six}).letters(), WORDS[:6])
        seven = {word: [STAY] for word in WORDS[:7]}
        self.refuses(TooMany, {"kind": "letters", "limit": 6}, Program, {}, {"on": seven})
        self.assertEqual(len(small(rules=[STAY] * 64).rules("on", "go")), 64)
        self.refuses(TooMany, {"kind": "rules", "limit": 64}, small, rules=[STAY] * 65)

    def test_limits_come_last_and_in_sequence(self):
        many = {word: [Rule("aa", "yes")] * 65 for word in WORDS[:7]}
        self.refuses(TooMany, {"kind": "modes", "limit": 40}, Program, {}, {word: many for word in WORDS[:41]})
        self.refuses(TooMany, {"kind": "letters", "limit": 6}, Program, {}, {"aa": many})
        long = {"on": {word: [STAY] * 65 for word in WORDS[:7]}}
        long["on"][WORDS[6]] = [STAY] * 65 + [1]
        self.refuses(InvalidRules, {"mode": "on", "letter": WORDS[6], "position": 65}, Program, {}, long)

    def test_by_name_and_copies(self):
        levels, rules = {"x": HELD}, {"on": {"go": [STAY]}}
        program = Program(rules=rules, levels=levels)
        levels["y"] = 1
        rules["on"]["go"].append(1)
        rules["on"]["stop"] = 2
        rules["off"] = 3
        self.assertEqual(program, small())


class Telling(Checks):
    def test_mute(self):
        program = mute()
        self.assertEqual(program.levels(), {"x": HELD})
        self.same(program.modes(), ["mute", "open"])
        self.same(program.letters(), ["report", "tick"])
        self.same(program.answers(), ["mute", "open"])
        places = [("mute", "report", 0), ("mute", "tick", 0), ("mute", "tick", 1), ("open", "report", 0),
                  ("open", "report", 1), ("open", "tick", 0)]
        self.same(list(program.places()), places)
        self.assertEqual([program.rule(place) for place in places],
                         [rule for mode in program.modes() for letter in program.letters()
                          for rule in program.rules(mode, letter)])
        self.assertEqual(program.rules(letter="tick", mode="mute")[0], program.rule(place=("mute", "tick", 0)))
        self.same(repr(program), "Program(['mute', 'open'], ['report', 'tick'], ['x'])")
        self.same(repr(small(levels={})), "Program(['on'], ['go'], [])")

    def test_sorted_whatever_the_sequence(self):
        table = {"z": [Rule("c", "k.l"), Rule("a", "m")], "b": [Rule("c", "k")]}
        program = Program({"y": HELD, "x": HELD}, {"c": table, "a": dict(reversed(table.items())), "b.a": table})
        self.same(program.modes(), ["a", "b.a", "c"])
        self.same(program.letters(), ["b", "z"])
        self.same(program.answers(), ["k", "k.l", "m"])
        self.same(list(program.levels()), ["x", "y"])
        self.assertEqual(list(program.places()), sorted(program.places()))
        self.assertEqual(len(list(program.places())), 9)

    def test_told_things_are_new(self):
        program = mute()
        program.levels().clear()
        for rows in (program.modes(), program.letters(), program.answers(), program.rules("open", "tick")):
            rows.clear()
        self.assertEqual(program, mute())
        self.same(program.modes(), ["mute", "open"])

    def test_move_of(self):
        program = Program({"x": HELD, "y": Range(1, 2)}, {"on": {"go": [Rule("on", "a", moves={"x": Move(2, 0, 0, 4)})]}})
        self.assertEqual(program.move_of(("on", "go", 0), "x"), Move(2, 0, 0, 4))
        self.assertEqual(program.move_of(level="y", place=("on", "go", 0)), Move(1, 0, 1, 2))
        self.refuses(InvalidPlace, {"value": ("on", "go", 1)}, program.move_of, ("on", "go", 1), None)
        for value in ODD_VALUES[:3] + ([], {}, "z", "on"):
            self.refuses(UnknownLevel, {"value": value}, program.move_of, ("on", "go", 0), value)

    def test_unknown(self):
        program = mute()
        for value in ODD_VALUES + ("tick",):
            self.refuses(UnknownMode, {"value": value}, program.rules, value, None)
            self.refuses(UnknownMode, {"value": value}, program.with_rules, value, None, None)
        for value in ODD_VALUES + ("open",):
            self.refuses(UnknownLetter, {"value": value}, program.rules, "open", value)
            self.refuses(UnknownLetter, {"value": value}, program.with_rules, "open", value, None)

    def test_invalid_places(self):
        program = mute()
        wrong = ODD_VALUES + (("open", "tick"), ["open", "tick", 0], ("open", "tick", 1), ("open", "tick", -1),
                              ("open", "tick", False), ("mute", "tick", True), ("open", "tick", None),
                              ("mute", "x", 0), ("x", "tick", 0), ([], "tick", 0), ("open", {}, 0),
                              ("open", "tick", Ratio(0)), ("open", "tick", 0, 0))
        for value in wrong:
            self.refuses(InvalidPlace, {"value": value}, program.rule, value)
            self.refuses(InvalidPlace, {"value": value}, program.move_of, value, None)
            self.refuses(InvalidPlace, {"value": value}, program.without_rule, value)
            self.refuses(InvalidPlace, {"value": value}, program.without_condition, value, None)
            self.refuses(InvalidPlace, {"value": value}, program.with_number, value, None, None)

    def test_equality(self):
        program = mute()
        self.assertTrue(program == mute())
        self.assertFalse(program != mute())
        others = (program.with_number(("mute", "tick", 0), 0, 3), small(), None, repr(program),
                  Program({"x": Range(-1, 16)}, {mode: {letter: program.rules(mode, letter)
                                                        for letter in program.letters()} for mode in program.modes()}))
        for other in others:
            self.assertFalse(program == other)
            self.assertTrue(program != other)


class Changing(Checks):
    def test_with_rules(self):
        program = mute()
        other = program.with_rules("open", "tick", (Rule("mute", "yes"),))
        self.assertEqual(other.rules("open", "tick"), [Rule("mute", "yes")])
        self.assertEqual(other.with_rules(rules=program.rules("open", "tick"), letter="tick", mode="open"), program)
        self.assertEqual(program, mute())
        fields = {"mode": "open", "letter": "tick", "position": None}
        self.refuses(InvalidRules, fields, program.with_rules, "open", "tick", [])
        self.refuses(InvalidRules, fields | {"position": 1}, program.with_rules, "open", "tick", [Rule("open", "a"), 1])
        self.refuses(TooMany, {"kind": "rules", "limit": 64}, program.with_rules, "open", "tick", [Rule("open", "a")] * 65)

    def test_with_number(self):
        program = mute()
        other = program.with_number(place=("mute", "tick", 0), position=0, number=Ratio(5, 2))
        self.same(other.rule(("mute", "tick", 0)).when(), (("x", "below", Ratio(5, 2)),))
        self.assertEqual(other.with_number(("mute", "tick", 0), 0, 2), program)
        for value in ODD_VALUES + (1, -1, Ratio(0)):
            self.refuses(InvalidPosition, {"value": value}, program.with_number, ("mute", "tick", 0), value, None)
            self.refuses(InvalidPosition, {"value": value}, program.with_number, ("mute", "tick", 1), value, 1)
        self.refuses(InvalidPosition, {"value": 0}, program.with_number, ("mute", "tick", 1), 0, 1)
        for value in NO_NUMBERS:
            self.refuses(InvalidNumber, {"value": value}, program.with_number, ("mute", "tick", 0), 0, value)

    def test_without_rule(self):
        program = mute()
        other = program.without_rule(place=("mute", "tick", 0))
        self.assertEqual(other.rules("mute", "tick"), program.rules("mute", "tick")[1:])
        fields = {"mode": "mute", "letter": "tick", "position": 0}
        self.refuses(InvalidRules, fields, program.without_rule, ("mute", "tick", 1))
        fields = {"mode": "open", "letter": "tick", "position": None}
        self.refuses(InvalidRules, fields, program.without_rule, ("open", "tick", 0))

    def test_without_condition(self):
        asking = Rule("on", "yes", when=[("x", "from", 4), ("x", "to", 5), ("x", "below", 6)])
        program = small(rules=[asking, STAY])
        other = program.without_condition(place=("on", "go", 0), position=1)
        self.same(other.rule(("on", "go", 0)).when(), (("x", "from", Ratio(4)), ("x", "below", Ratio(6))))
        for value in ODD_VALUES + (3, -1):
            self.refuses(InvalidPosition, {"value": value}, program.without_condition, ("on", "go", 0), value)
        self.refuses(InvalidPosition, {"value": 0}, program.without_condition, ("on", "go", 1), 0)

    def test_without_level(self):
        moves = {"x": Move.setting(1), "y": Move.setting(2)}
        rules = [Rule("on", "yes", when=[("x", "from", 4), ("y", "to", 5)], moves=moves), STAY.changed(moves=moves)]
        program = small(levels={"x": HELD, "y": HELD}, rules=rules)
        wanted = [Rule("on", "yes", when=[("y", "to", 5)], moves={"y": Move.setting(2)}),
                  Rule("on", "yes", moves={"y": Move.setting(2)})]
        self.assertEqual(program.without_level(level="x"), small(levels={"y": HELD}, rules=wanted))
        for value in ODD_VALUES:
            if value != "x":
                self.refuses(UnknownLevel, {"value": value}, program.without_level, value)
        self.refuses(UnknownLevel, {"value": "z"}, program.without_level, "z")


class Checking(Checks):
    def test_check_program(self):
        check_program(mute())
        for value in ODD_VALUES + (Program,):
            self.refuses(InvalidProgram, {"value": value}, check_program, value)

    def test_check_same_letters(self):
        one = Program({}, {"on": {"a": [STAY], "c": [STAY], "d": [STAY]}})
        other = Program({}, {"on": {"a": [STAY], "b": [STAY], "d": [STAY]}})
        check_same_letters(one, one)
        self.refuses(OtherLetters, {"letter": "b"}, check_same_letters, one, other)
        self.refuses(OtherLetters, {"letter": "b"}, check_same_letters, other, one)


if __name__ == "__main__":
    unittest.main()
