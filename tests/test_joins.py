"""Tests of fademodes.joins: programs side by side, and one behind another one [36]."""

import unittest
from itertools import product

from examples import HELD, ODD_VALUES, Checks, mute
from fademodes.cuts import Range
from fademodes.errors import InvalidName, InvalidProgram, NameTaken, OtherLetters, TooMany, UnknownLetter
from fademodes.joins import joined_behind, joined_state, side_by_side
from fademodes.moves import Move
from fademodes.programs import Program, Rule
from fademodes.ratios import Ratio
from fademodes.runs import answers_of, is_state, run, state_behind

THERE = Range(0, 9)
UP, DOWN = Move.adding(1, THERE), Move.dividing(3, THERE)
WORDS = [first + second for first in "abcdefgh" for second in "abcdefgh"]


def heat():
    """Return a program with a level y, with the letters of MUTE."""
    cold = {"tick": [Rule("cold", "no")],
            "report": [Rule("hot", "yes", when=[("y", "above", 2), ("y", "to", 8)], moves={"y": UP}),
                       Rule("cold", "no", moves={"y": UP})]}
    hot = {"tick": [Rule("cold", "no", when=[("y", "below", 1)]), Rule("hot", "yes", moves={"y": DOWN})],
           "report": [Rule("hot", "yes", moves={"y": UP})]}
    return Program({"y": THERE}, {"hot": hot, "cold": cold})


def lamp():
    """Return a program that takes the answers of MUTE as its letters."""
    dark = {"open": [Rule("dark", "off")], "mute": [Rule("lit", "on", when=[("z", "from", 1)], moves={"z": Move.setting(3)}),
                                                    Rule("dark", "half.on", moves={"z": UP})]}
    lit = {"open": [Rule("dark", "off", moves={"z": DOWN})], "mute": [Rule("lit", "on", moves={"z": UP})]}
    return Program({"z": THERE}, {"dark": dark, "lit": lit})


def plain(modes=("on",), letters=("go",), levels=(), answer="yes", rules=1, when=()):
    """Return a program with as many things of each kind as are asked for."""
    row = [Rule(modes[0], answer, when=when)] * (rules - 1) + [Rule(modes[0], answer)]
    return Program({level: HELD for level in levels}, {mode: {letter: row for letter in letters} for mode in modes})


class SideBySide(Checks):
    def test_parts(self):
        joined = side_by_side(mute(), heat())
        self.same(joined.modes(), ["mute.cold", "mute.hot", "open.cold", "open.hot"])
        self.same(joined.letters(), ["report", "tick"])
        self.assertEqual(joined.levels(), {"x": HELD, "y": THERE})
        more = Move.adding(8, HELD)
        both = {"x": more, "y": UP}
        self.assertEqual(joined.rules("open.cold", "report"), [
            Rule("mute.hot", "mute.yes", when=[("x", "from", 4), ("y", "above", 2), ("y", "to", 8)], moves=both),
            Rule("mute.cold", "mute.no", when=[("x", "from", 4)], moves=both),
            Rule("open.hot", "open.yes", when=[("y", "above", 2), ("y", "to", 8)], moves=both),
            Rule("open.cold", "open.no", moves=both)])
        self.assertEqual(joined.rules("mute.hot", "tick"), [
            Rule("open.cold", "open.no", when=[("x", "below", 2), ("y", "below", 1)]),
            Rule("open.hot", "open.yes", when=[("x", "below", 2)], moves={"y": DOWN}),
            Rule("mute.cold", "mute.no", when=[("y", "below", 1)], moves={"x": Move.dividing(2, HELD)}),
            Rule("mute.hot", "mute.yes", moves={"x": Move.dividing(2, HELD), "y": DOWN})])

    def test_by_name(self):
        self.assertEqual(side_by_side(other=heat(), one=mute()), side_by_side(mute(), heat()))
        self.same(side_by_side(heat(), mute()).modes(), ["cold.mute", "cold.open", "hot.mute", "hot.open"])

    def test_both_answer(self):
        joined = side_by_side(mute(), heat())
        for state, other_state in (("open", {"x": 0}), ("cold", {"y": 0})), (("mute", {"x": 7}), ("hot", {"y": Ratio(5, 2)})):
            begin = joined_state(state, other_state)
            self.assertTrue(is_state(joined, begin))
            for history in product(("report", "tick"), repeat=6):
                answers = [f"{one}.{other}" for one, other in zip(answers_of(mute(), state, history),
                                                                   answers_of(heat(), other_state, history))]
                self.assertEqual(answers_of(joined, begin, history), answers)
                wanted = joined_state(state_behind(mute(), state, history), state_behind(heat(), other_state, history))
                self.same(state_behind(joined, begin, history), wanted)

    def test_without_levels(self):
        joined = side_by_side(plain(), plain(modes=("off",)))
        self.assertEqual(joined, Program({}, {"on.off": {"go": [Rule("on.off", "yes.yes")]}}))

    def test_no_program(self):
        for value in ODD_VALUES:
            self.refuses(InvalidProgram, {"value": value}, side_by_side, value, None)
            self.refuses(InvalidProgram, {"value": value}, side_by_side, mute(), value)

    def test_other_letters_first(self):
        one = plain(letters=("a", "c"), levels=("x",), modes=("a.b",))
        other = plain(letters=("b", "c", "a"), levels=("x",), modes=("a.b",))
        self.refuses(OtherLetters, {"letter": "b"}, side_by_side, one, other)
        self.refuses(OtherLetters, {"letter": "b"}, side_by_side, other, one)

    def test_name_taken_next(self):
        one, other = plain(levels=("c", "b", "a"), modes=("a.b",)), plain(levels=("d", "c", "b"))
        self.refuses(NameTaken, {"name": "b"}, side_by_side, one, other)

    def test_points_next(self):
        pointed = plain(modes=("b.c", "a.c", "a"), answer="y.z", levels=("u", "v", "w"))
        self.refuses(InvalidName, {"value": "a.c"}, side_by_side, pointed, pointed.without_level("u").without_level(
            "v").without_level("w"))
        one = plain(answer="y.z", levels=("u", "v", "w"))
        self.refuses(InvalidName, {"value": "y.z"}, side_by_side, one, plain(modes=("a.c",), levels=("x",)))
        other = plain(modes=("b.c", "a.c", "d"), answer="m.n", levels=("x", "y"))
        self.refuses(InvalidName, {"value": "a.c"}, side_by_side, plain(levels=("z", "u")), other)
        self.refuses(InvalidName, {"value": "m.n"}, side_by_side, plain(), plain(answer="m.n"))

    def test_limits(self):
        self.assertEqual(len(side_by_side(plain(levels=("x", "y")), plain(levels=("z",))).levels()), 3)
        wide = plain(levels=("x", "y"), modes=WORDS[:21], rules=9, when=[("x", "to", 1)] * 5)
        deep = plain(levels=("u", "v"), modes=("on", "off"), rules=9, when=[("u", "to", 1)] * 5)
        self.refuses(TooMany, {"kind": "levels", "limit": 3}, side_by_side, wide, deep)
        deep = plain(levels=("u",), modes=("on", "off"), rules=9, when=[("u", "to", 1)] * 5)
        self.refuses(TooMany, {"kind": "modes", "limit": 40}, side_by_side, wide, deep)
        wide = plain(levels=("x", "y"), modes=WORDS[:20], rules=9, when=[("x", "to", 1)] * 5)
        self.refuses(TooMany, {"kind": "rules", "limit": 64}, side_by_side, wide, deep)
        wide = plain(levels=("x", "y"), modes=WORDS[:20], rules=7, when=[("x", "to", 1)] * 4)
        self.refuses(TooMany, {"kind": "conditions", "limit": 8}, side_by_side, wide, deep)
        deep = plain(levels=("u",), modes=("on", "off"), rules=9, when=[("u", "to", 1)] * 4)
        joined = side_by_side(wide, deep)
        self.assertEqual((len(joined.modes()), len(joined.rules("aa.on", "go"))), (40, 63))
        self.assertEqual(len(joined.rule(("aa.on", "go", 0)).when()), 8)
        joined = side_by_side(plain(rules=8), plain(rules=8))
        self.assertEqual(len(joined.rules("on.on", "go")), 64)

    def test_conditions_count_where_rules_meet(self):
        row = [Rule("on", "yes", when=[("x", "to", 1)] * 8), Rule("on", "yes")]
        one = Program({"x": HELD}, {"on": {"go": row, "stop": [Rule("on", "yes")]}})
        row = [Rule("on", "yes", when=[("y", "to", 1)]), Rule("on", "yes")]
        other = Program({"y": HELD}, {"on": {"go": [Rule("on", "yes")], "stop": row}})
        self.assertEqual(len(side_by_side(one, other).rule(("on.on", "go", 0)).when()), 8)

    def test_rules_ahead_of_conditions_in_any_list(self):
        asking = [Rule("on", "yes", when=[("x", "to", 1)] * 8), Rule("on", "yes")]
        one = Program({"x": HELD}, {"on": {"go": asking, "stop": [Rule("on", "yes")] * 9}})
        asking = [Rule("on", "yes", when=[("y", "to", 1)] * 8), Rule("on", "yes")]
        other = Program({"y": HELD}, {"on": {"go": asking, "stop": [Rule("on", "yes")] * 9}})
        self.refuses(TooMany, {"kind": "rules", "limit": 64}, side_by_side, one, other)


class Behind(Checks):
    def test_parts(self):
        joined = joined_behind(lamp(), mute())
        self.same(joined.modes(), ["dark.mute", "dark.open", "lit.mute", "lit.open"])
        self.same(joined.letters(), ["report", "tick"])
        self.same(joined.answers(), ["half.on", "off", "on"])
        self.assertEqual(joined.levels(), {"x": HELD, "z": THERE})
        more = Move.adding(8, HELD)
        self.assertEqual(joined.rules("dark.open", "report"), [
            Rule("lit.mute", "on", when=[("x", "from", 4), ("z", "from", 1)], moves={"x": more, "z": Move.setting(3)}),
            Rule("dark.mute", "half.on", when=[("x", "from", 4)], moves={"x": more, "z": UP}),
            Rule("dark.open", "off", moves={"x": more})])
        self.assertEqual(joined.rules("lit.mute", "tick"), [
            Rule("dark.open", "off", when=[("x", "below", 2)], moves={"z": DOWN}),
            Rule("lit.mute", "on", moves={"x": Move.dividing(2, HELD), "z": UP})])

    def test_by_name(self):
        self.assertEqual(joined_behind(other=mute(), one=lamp()), joined_behind(lamp(), mute()))

    def test_answers_are_handed_on(self):
        joined = joined_behind(lamp(), mute())
        begin = joined_state(("dark", {"z": 0}), ("open", {"x": 0}))
        for history in product(("report", "tick"), repeat=7):
            handed = answers_of(mute(), ("open", {"x": 0}), history)
            wanted = list(run(lamp(), ("dark", {"z": 0}), handed))
            found = list(run(joined, begin, history))
            self.assertEqual([told[1] for told in found], [told[1] for told in wanted])
            self.assertEqual([told[0][1]["z"] for told in found], [told[0][1]["z"] for told in wanted])

    def test_no_program(self):
        for value in ODD_VALUES:
            self.refuses(InvalidProgram, {"value": value}, joined_behind, value, None)
            self.refuses(InvalidProgram, {"value": value}, joined_behind, lamp(), value)

    def test_unknown_letter_first(self):
        one = plain(letters=("a", "c"), levels=("x",), modes=("a.b",))
        rows = [Rule("on", "d"), Rule("on", "b"), Rule("on", "a")]
        other = Program({"x": HELD}, {"on": {"go": rows}})
        self.refuses(UnknownLetter, {"value": "b"}, joined_behind, one, other)

    def test_name_taken_next(self):
        one = plain(letters=("yes", "no"), levels=("c", "b"), modes=("a.b",))
        self.refuses(NameTaken, {"name": "b"}, joined_behind, one, plain(levels=("b", "c"), modes=("c.d",)))

    def test_points_next(self):
        one = plain(letters=("yes.no",), modes=("b.c", "a.c", "d"), levels=("x", "y"), answer="a.b")
        other = plain(answer="yes.no", modes=("f.g", "e.g"), levels=("u", "v"))
        self.refuses(InvalidName, {"value": "a.c"}, joined_behind, one, other)
        one = plain(letters=("yes.no",), levels=("x", "y"), answer="a.b")
        self.refuses(InvalidName, {"value": "e.g"}, joined_behind, one, other)

    def test_answers_and_letters_may_have_points(self):
        one = plain(letters=("yes.no",), answer="a.b")
        joined = joined_behind(one, plain(answer="yes.no", letters=("g.h",)))
        self.assertEqual(joined, Program({}, {"on.on": {"g.h": [Rule("on.on", "a.b")]}}))

    def test_limits(self):
        one = plain(letters=("yes",), levels=("x", "y"), modes=WORDS[:21], rules=9, when=[("x", "to", 1)] * 5)
        other = plain(levels=("u", "v"), modes=("on", "off"), rules=9, when=[("u", "to", 1)] * 5)
        self.refuses(TooMany, {"kind": "levels", "limit": 3}, joined_behind, one, other)
        other = other.without_level("v")
        self.refuses(TooMany, {"kind": "modes", "limit": 40}, joined_behind, one, other)
        one = plain(letters=("yes",), levels=("x", "y"), modes=WORDS[:20], rules=9, when=[("x", "to", 1)] * 5)
        self.refuses(TooMany, {"kind": "rules", "limit": 64}, joined_behind, one, other)
        one = plain(letters=("yes",), levels=("x", "y"), modes=WORDS[:20], rules=7, when=[("x", "to", 1)] * 4)
        self.refuses(TooMany, {"kind": "conditions", "limit": 8}, joined_behind, one, other)
        other = plain(levels=("u",), modes=("on", "off"), rules=9, when=[("u", "to", 1)] * 4)
        self.assertEqual(len(joined_behind(one, other).rules("aa.off", "go")), 63)

    def test_rules_count_for_each_answer(self):
        one = Program({}, {"on": {"a": [Rule("on", "yes")] * 62, "b": [Rule("on", "yes")]}})
        other = Program({}, {"on": {"go": [Rule("on", "b"), Rule("on", "a"), Rule("on", "b")]}})
        self.assertEqual(len(joined_behind(one, other).rules("on.on", "go")), 64)
        other = other.with_rules("on", "go", [Rule("on", "b"), Rule("on", "a"), Rule("on", "b"), Rule("on", "b")])
        self.refuses(TooMany, {"kind": "rules", "limit": 64}, joined_behind, one, other)


class JoinedStates(Checks):
    def test_joined_state(self):
        self.same(joined_state(("open", {"y": 1}), ("hot", {"x": Ratio(1, 2), "a": 3})),
                  ("open.hot", {"a": Ratio(3), "x": Ratio(1, 2), "y": Ratio(1)}))
        self.same(joined_state(other_state=("b", {}), one_state=("a", {})), ("a.b", {}))

    def test_arguments_are_not_changed(self):
        one, other = ("open", {"y": 1}), ("hot", {"x": 2})
        joined_state(one, other)
        self.same((one, other), (("open", {"y": 1}), ("hot", {"x": 2})))


if __name__ == "__main__":
    unittest.main()
