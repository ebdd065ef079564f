"""Tests of fademodes.texts: texts of numbers, cuts, states and programs, and how they are read [37]."""

import unittest

from examples import HELD, NO_NUMBERS, ODD_VALUES, Checks, mute
from fademodes.cuts import Range
from fademodes.errors import InvalidCut, InvalidNumber, InvalidProgram, InvalidState, InvalidText
from fademodes.joins import side_by_side
from fademodes.moves import Move
from fademodes.programs import Program, Rule
from fademodes.ratios import Ratio
from fademodes.texts import (
    cut_text, number_text, program_text, read_number, read_program, read_state, state_text)
from samples import Chance, lights, two_levels

MUTE = mute()
MUTE_TEXT = """level x: 0 16
mode mute
on report go mute say mute; x by 1 add 8 in 0 16
on tick if x below 2 go open say open
on tick go mute say mute; x by 2 add 0 in 0 16
mode open
on report if x from 4 go mute say mute; x by 1 add 8 in 0 16
on report go open say open; x by 1 add 8 in 0 16
on tick go open say open; x by 2 add 0 in 0 16
"""
NO_STRINGS = tuple(value for value in ODD_VALUES if not isinstance(value, str))
NO_NUMBER_TEXTS = ("", " ", "-", "/", "+1", "01", "-01", "00", "-0", "1/", "/2", "1/1", "2/4", "0/2", "1/0", "1/02", "1/-2",
                   "-1/-2", "--1", "1.5", "1 ", " 1", "1\n", "1/2/3", "1_0", "x", "1e3", "a/b", "3/ 2", "1-", "0x1", "-/2")


def lines_of(text):
    return text.splitlines(keepends=True)


class Numbers(Checks):
    def test_texts(self):
        for number, text in ((0, "0"), (16, "16"), (-3, "-3"), (Ratio(3, 2), "3/2"), (Ratio(-3, 2), "-3/2"),
                             (Ratio(8, 4), "2"), (Ratio(0, 7), "0"), (10 ** 40, "1" + "0" * 40), (Ratio(-1, 10 ** 30), "-1/1" + "0" * 30)):
            self.same(number_text(number), text)
            self.same(read_number(text), Ratio.of(number))
        self.same([number_text(number=Ratio(1, 3)), read_number(text="1/3")], ["1/3", Ratio(1, 3)])

    def test_long_numbers(self):
        text = "-" + "7" * 3900 + "/" + "1" + "0" * 3900
        self.same(number_text(read_number(text)), text)

    def test_refused(self):
        for value in NO_NUMBERS:
            self.refuses(InvalidNumber, {"value": value}, number_text, value)
        for text in NO_NUMBER_TEXTS:
            self.refuses(InvalidText, {"line": 1}, read_number, text)
        for value in NO_STRINGS + (1,):
            self.refuses(InvalidText, {"line": None}, read_number, value)


class Cuts(Checks):
    def test_texts(self):
        self.same([cut_text((4, False)), cut_text((Ratio(-3, 2), True)), cut_text(cut=(Ratio(4, 2), True))],
                  ["below 4", "above -3/2", "above 2"])

    def test_refused(self):
        for value in ODD_VALUES + ((1, 0), (True, False), [1, False], (1, False, False)):
            self.refuses(InvalidCut, {"value": value}, cut_text, value)


class States(Checks):
    def test_texts(self):
        for program, state, text in ((MUTE, ("open", {"x": 5}), "open x=5"), (MUTE, ("mute", {"x": Ratio(3, 2)}), "mute x=3/2"),
                                     (two_levels(), ("on", {"y": Ratio(-1, 2), "x": 10}), "on x=10 y=-1/2"),
                                     (lights(), ("red", {}), "red")):
            self.same(state_text(program, state), text)
            found = read_state(program, text)
            self.same(found, (state[0], {level: Ratio.of(state[1][level]) for level in sorted(state[1])}))
        self.same(state_text(state=("open", {"x": 5}), program=MUTE), "open x=5")
        self.same(read_state(text="open x=5", program=MUTE), ("open", {"x": Ratio(5)}))

    def test_a_joined_program(self):
        joined = side_by_side(lights(), lights())
        self.same(state_text(joined, ("red.amber", {})), "red.amber")
        self.same(read_state(joined, "red.amber"), ("red.amber", {}))

    def test_texts_that_are_none(self):
        for text in ("", "open", "shut x=5", "open x=17", "open x=-1", "open x=5 ", " open x=5", "open  x=5", "open x=5\n",
                     "open x =5", "open x= 5", "open y=5", "open x=5 y=5", "open x=5 x=5", "open x=", "open x", "open 5",
                     "open x=5/1", "open x=10/2", "open x=05", "open x=+5", "x=5 open", "open,x=5", "open x==5", "open =5", "open x=a",
                     "open x=5=5", "Open x=5"):
            self.refuses(InvalidText, {"line": 1}, read_state, MUTE, text)
        for text in ("on y=1 x=2", "on x=2", "on x=2  y=1", "on x=2 y=1 y=1", "on x=2 x=2 y=1", "on x=2 y=4", "on x=2 y=1 ", "on"):
            self.refuses(InvalidText, {"line": 1}, read_state, two_levels(), text)
        for text in ("red ", "red x=1", "", "blue"):
            self.refuses(InvalidText, {"line": 1}, read_state, lights(), text)

    def test_refused(self):
        for value in ODD_VALUES:
            self.refuses(InvalidProgram, {"value": value}, state_text, value, None)
            self.refuses(InvalidProgram, {"value": value}, read_state, value, None)
        for value in ODD_VALUES + (("open", {"x": 17}),):
            self.refuses(InvalidState, {"value": value}, state_text, MUTE, value)
        for value in NO_STRINGS:
            self.refuses(InvalidText, {"line": None}, read_state, MUTE, value)


class ProgramTexts(Checks):
    def test_mute(self):
        self.same(program_text(MUTE), MUTE_TEXT)
        self.assertEqual(read_program(MUTE_TEXT), MUTE)
        self.assertEqual(read_program(text=program_text(program=MUTE)), MUTE)

    def test_all_parts(self):
        held = Range(Ratio(-1, 2), 4)
        rule = Rule("on.b", "yes.sir", when=[("y", "above", Ratio(7, 3)), ("x", "to", -2), ("y", "above", 9)],
                    moves={"y": Move(12, Ratio(-1, 3), 0, Ratio(3, 2)), "x": Move(1, 0, 3, 3)})
        program = Program({"y": held, "x": Range(0, 9)}, {"on.b": {"go.on": [rule, Rule("on.b", "no")]}})
        text = ("level x: 0 9\nlevel y: -1/2 4\nmode on.b\n"
                "on go.on if y above 7/3 and x to -2 and y above 9 go on.b say yes.sir; "
                "x by 1 add 0 in 3 3; y by 12 add -1/3 in 0 3/2\non go.on go on.b say no\n")
        self.same(program_text(program), text)
        self.assertEqual(read_program(text), program)

    def test_without_levels(self):
        text = program_text(lights())
        self.same(lines_of(text)[:3], ["mode amber\n", "on go go green say walk\n", "on halt go red say stop\n"])
        self.assertEqual(read_program(text), lights())

    def test_names_that_are_words_of_the_text(self):
        words = ("if", "go", "say", "and", "on", "mode", "level", "by", "add", "in", "from")
        levels = {"and": HELD, "go": HELD, "if": HELD}
        rules = {"go": {word: [Rule("say", "go", when=[("if", "from", 1), ("and", "to", 2), ("go", "to", 3)],
                                    moves={"go": Move.setting(3), "if": Move.setting(1)}), Rule("go", "and")]
                        for word in words[:6]}}
        rules["say"] = rules["go"]
        program = Program(levels, rules)
        self.assertEqual(read_program(program_text(program)), program)
        self.assertIn("on if if if from 1 and and to 2 and go to 3 go say say go; go by 1 add 0 in 3 3", program_text(program))

    def test_many_small_programs(self):
        for seed in range(60):
            program = Chance(seed).program(seed % 4)
            self.assertEqual(read_program(program_text(program)), program)
            self.same(program_text(read_program(program_text(program))), program_text(program))

    def test_refused(self):
        for value in ODD_VALUES:
            self.refuses(InvalidProgram, {"value": value}, program_text, value)
        for value in NO_STRINGS + (1, MUTE):
            self.refuses(InvalidText, {"line": None}, read_program, value)


class ProgramsRead(Checks):
    def wrong_at(self, line, text):
        self.refuses(InvalidText, {"line": line}, read_program, text)

    def changed(self, line, text):
        """Return the text of MUTE with another line in the place of one."""
        found = lines_of(MUTE_TEXT)
        found[line - 1] = text
        return "".join(found)

    def test_empty_text_and_line_feeds(self):
        self.wrong_at(1, "")
        self.wrong_at(1, "\n")
        self.wrong_at(1, "\n" + MUTE_TEXT)
        self.wrong_at(10, MUTE_TEXT + "\n")
        self.wrong_at(9, MUTE_TEXT[:-1])
        self.wrong_at(10, MUTE_TEXT + " ")
        self.wrong_at(3, self.changed(3, "\n"))
        self.wrong_at(1, "mode on")
        self.wrong_at(1, "x")

    def test_lines_without_a_form(self):
        for text in ("level x:0 16", "level x : 0 16", "level x 0 16", "level x: 0", "level x: 0 16 ", " level x: 0 16",
                     "level x:  0 16", "level X: 0 16", "level : 0 16", "level x:: 0 16", "level x: a 16", "level x: 0 16/1",
                     "level x: 00 16", "Level x: 0 16", "level x: 0 16 16", "level x.y.z: 0 16", "level abcdefghi: 0 16", "level"):
            self.wrong_at(1, self.changed(1, text + "\n"))
        for text in ("mode", "mode ", "mode Mute", "mode mute ", "mode  mute", "mode mute mute", "mode mute:", "Mode mute", "mode a.b.c"):
            self.wrong_at(2, self.changed(2, text + "\n"))

    def test_rules_without_a_form(self):
        rule = "on report if x from 4 go mute say mute; x by 1 add 8 in 0 16"
        self.assertEqual(read_program(self.changed(7, rule + "\n")), MUTE)
        for old, new in (("on ", "On "), ("on report", "on"), ("report", "Report"), ("if x", "if  x"), ("if x", "x"), ("if", "and"),
                         ("if x from 4", "if"), ("if x from 4", "if x from"), ("if x from 4", "if x from 4 and"),
                         ("from 4", "from 4 x from 4"), ("from 4", "from 4 or x from 4"), ("from 4", "from 4 if x from 4"),
                         ("from", "at"), ("from 4", "from 8/2"), ("from 4", "from 04"), ("x from", "X from"), ("go ", "to "),
                         ("say", "tell"), ("say", "and"), ("go mute", "go Mute"), ("go mute", "go"), ("say mute", "say"), ("say mute", "say Mute"), (" say", "  say"),
                         ("; x", ";x"), ("; x", " ; x"), ("; x", ";  x"), ("; x", ", x"), ("; x by", "; by"), ("x by", "X by"),
                         ("by 1", "by 2/2"), ("by 1", "by x"), ("by 1", "by 01"), ("add 8", "plus 8"), ("add 8", "add"), ("add 8", "add 16/2"),
                         ("in 0 16", "in 0"), ("in 0 16", "in 0 16 16"), ("in 0 16", "in 0 16;"), ("in 0 16", "in 0 16; "),
                         ("in 0 16", "in 0 16 "), ("in 0 16", "in 0 16; x by 1 add 8 in 0 16"), ("mute;", "mute"), ("on", "")):
            self.assertIn(old, rule)
            self.wrong_at(7, self.changed(7, rule.replace(old, new, 1) + "\n"))

    def test_rules_with_too_few_words(self):
        for text in ("on", "on go", "on go go", "on go on say", "on go on say no", "on  go on say no", "on go  on say no", "go on say no"):
            self.wrong_at(3, f"mode on\non go go on say no\n{text}\n")

    def test_the_levels_of_moves_are_sorted(self):
        text = "level x: 0 9\nlevel y: 0 9\nmode on\non go go on say yes; {}; {}\non go go on say no\n"
        one, other = "x by 1 add 0 in 0 9", "y by 1 add 0 in 0 9"
        self.assertEqual(list(read_program(text.format(one, other)).rules("on", "go")[0].moves()), ["x", "y"])
        self.wrong_at(4, text.format(other, one))
        self.wrong_at(4, text.format(one, one))

    def test_lines_that_make_nothing(self):
        self.wrong_at(1, self.changed(1, "level x: 16 0\n"))
        self.wrong_at(1, self.changed(1, "level x: 16 31/2\n"))
        for new in ("by 0 add 8 in 0 16", "by -1 add 8 in 0 16", "by 3/2 add 8 in 0 16", "by 1 add 8 in 16 0"):
            self.wrong_at(3, self.changed(3, f"on report go mute say mute; x {new}\n"))
        eight = " and ".join(["x from 4"] * 8)
        self.assertEqual(len(read_program(self.changed(7, f"on report if {eight} go mute say mute\n")).rules("open", "report")[0].when()), 8)
        self.wrong_at(7, self.changed(7, f"on report if {eight} and x from 4 go mute say mute\n"))

    def test_what_makes_nothing_does_not_count_for_other_lines(self):
        self.wrong_at(3, "level a: 0 1\nmode on\non go if x from 2 go on say yes\nlevel x: 2 1\non go go on say no\n")
        self.wrong_at(1, "level x: 2 1\nlevel x: 0 1\nmode on\non go if x to 2 go on say yes\non go go on say no\n")
        self.wrong_at(2, "mode on\non go if x to 1 go on say yes\non go go on say no;\n")
        self.wrong_at(1, "mode on\non go go on say no;\n")
        self.wrong_at(2, "mode on\non go go off say no\nmode off \non go go off say no\n")

    def test_levels_in_a_wrong_place(self):
        rest = "mode on\non go go on say yes\n"
        self.assertEqual(sorted(read_program("level x: 0 1\nlevel y: 0 1\n" + rest).levels()), ["x", "y"])
        self.wrong_at(2, "level y: 0 1\nlevel x: 0 1\n" + rest)
        self.wrong_at(2, "level x: 0 1\nlevel x: 0 1\n" + rest)
        self.wrong_at(4, "level x: 0 1\n" + rest + "level y: 0 1\n")
        self.wrong_at(2, "mode on\nlevel x: 0 1\non go go on say yes\n")
        self.wrong_at(3, "level a: 0 1\nlevel c: 0 1\nlevel b: 0 1\nlevel a: 0 1\n" + rest)

    def test_modes_in_a_wrong_place(self):
        rule = "on go go a say yes\n"
        self.assertEqual(read_program("mode a\n" + rule + "mode b\n" + rule).modes(), ["a", "b"])
        self.wrong_at(3, "mode b\n" + rule + "mode a\n" + rule)
        self.wrong_at(3, "mode a\n" + rule + "mode a\n" + rule)
        self.wrong_at(5, "mode a\n" + rule + "mode c\n" + rule + "mode b\n" + rule)

    def test_rules_in_a_wrong_place(self):
        one, other = "on beat go a say yes\n", "on rest go a say yes\n"
        self.assertEqual(read_program("mode a\n" + one + one + other).letters(), ["beat", "rest"])
        self.wrong_at(1, one + "mode a\n" + one)
        self.wrong_at(3, "mode a\n" + other + one)
        self.wrong_at(4, "mode a\n" + one + other + one)
        self.wrong_at(2, "level x: 0 1\n" + one + "mode a\n" + one)

    def test_names_without_a_line(self):
        for rule in ("if y from 4 go mute say mute", "if x from 4 and y from 4 go mute say mute", "go mute say mute; y by 1 add 8 in 0 16",
                     "go mute say mute; a by 1 add 8 in 0 16; x by 1 add 8 in 0 16", "go shut say mute", "if x from 4 go shut say open"):
            self.wrong_at(7, self.changed(7, f"on report {rule}\n"))

    def test_names_with_a_line_in_a_wrong_place(self):
        self.wrong_at(4, "mode on\non go if x from 1 go on say yes\non go go on say no\nlevel x: 0 1\n")
        self.wrong_at(3, "mode on\non go go off say yes\nmode off\non go go on say no\n")
        self.wrong_at(2, "mode on\non go go off say yes\nmode of\non go go on say no\n")

    def test_moves_that_leave_the_level(self):
        for held in ("-1 16", "0 17", "33/2 33/2", "-3 -2", "0 33/2"):
            self.wrong_at(3, self.changed(3, f"on report go mute say mute; x by 1 add 8 in {held}\n"))
        for held in ("0 16", "16 16", "0 0", "1/3 47/3"):
            read_program(self.changed(3, f"on report go mute say mute; x by 1 add 8 in {held}\n"))

    def test_of_two_lines_of_a_level_the_first_counts(self):
        text = "level x: 0 {}\nmode on\non go go on say yes; x by 1 add 0 in 0 5\nlevel x: 0 {}\n"
        self.wrong_at(3, text.format(4, 9))
        self.wrong_at(4, text.format(9, 4))
        self.wrong_at(4, text.format(9, 9))

    def test_last_rules_with_a_condition(self):
        self.wrong_at(8, self.changed(8, "on report if x to 9 go open say open\n"))
        self.wrong_at(9, self.changed(9, "on tick if x to 9 go open say open\n"))
        self.wrong_at(4, self.changed(5, "on tick go mute say\n"))
        self.wrong_at(5, self.changed(5, "on tick if x to 9 go mute say mute\n"))

    def test_a_letter_that_comes_again_has_its_last_rule_there(self):
        row = "level x: 0 9\nmode on\non a if x to 5 go on say no\non b go on say no\n{}\n"
        self.wrong_at(5, row.format("on a go on say no"))
        self.wrong_at(3, row.format("on c go on say no"))

    def test_modes_without_the_right_letters(self):
        rule, other = "on go go a say yes\n", "on halt go a say yes\n"
        self.wrong_at(1, "mode a\n")
        self.wrong_at(3, "mode a\n" + rule + "mode b\n")
        self.wrong_at(3, "mode a\n" + rule + "mode b\n" + other)
        self.wrong_at(3, "mode a\n" + rule + "mode b\n" + rule + other)
        self.wrong_at(4, "mode a\n" + rule + other + "mode b\n" + rule + "mode c\n" + other)
        self.wrong_at(1, "mode a\nmode b\n" + rule)

    def test_a_rule_belongs_to_the_last_line_of_a_mode(self):
        rule, other = "on go go a say yes\n", "on halt go a say yes\n"
        self.wrong_at(1, "mode a\nmode a\n" + rule)
        self.wrong_at(3, "mode a\n" + rule + "mode a\n")
        self.wrong_at(3, "mode a\n" + rule + "mode b\nmode b\n" + rule)
        self.wrong_at(4, "mode a\n" + rule + other + "mode b\n" + rule + "mode b\n" + other)

    def test_wrong_lines_count_for_the_letters_of_modes(self):
        rule, other = "on go go a say yes\n", "on halt go a say yes\n"
        self.wrong_at(6, "mode a\n" + rule + other + "mode b\n" + other + rule)
        self.wrong_at(6, "mode a\n" + rule + other + "mode b\n" + rule + other[:-1])
        self.wrong_at(4, "mode a\n" + rule + other + "mode b\n" + rule + other.replace("halt", "Halt"))

    def test_a_line_that_lacks_its_line_feed_counts(self):
        self.wrong_at(3, "mode a\non go go a say yes\non go go a say yes")
        self.wrong_at(4, "level x: 0 9\nmode a\non go if x to 5 go a say yes\non go go a say yes")
        self.wrong_at(3, "level x: 0 9\nmode a\non go if x to 5 go a say yes\non go go a say")
        self.wrong_at(2, "mode a\non go go b say yes")
        self.wrong_at(3, "mode a\non go go b say yes\nmode b")

    def test_the_first_wrong_line(self):
        self.wrong_at(1, "level x: 1 0\nmode a\non go if y to 5 go b say yes")
        self.wrong_at(3, self.changed(3, "x\n") + "x")
        self.wrong_at(4, self.changed(5, "on tick if x to 9 go shut say mute\n").replace("go open say open\n", "go off say open\n", 1))

    def test_what_a_program_refuses_beside_is_in_the_last_line(self):
        rest = "mode on\non go go on say yes\n"
        levels = [f"level {name}: 0 1\n" for name in "abcd"]
        read_program("".join(levels[:3]) + rest)
        self.wrong_at(6, "".join(levels) + rest)
        self.wrong_at(1, levels[0])
        self.wrong_at(3, "".join(levels[:3]))
        names = [first + second for first in "abcdefg" for second in "abcdefg"]
        modes = [f"mode {name}\non go go aa say yes\n" for name in names]
        self.assertEqual(len(read_program("".join(modes[:40])).modes()), 40)
        self.wrong_at(82, "".join(modes[:41]))
        letters = [f"on {name} go on say yes\n" for name in names]
        read_program("mode on\n" + "".join(letters[:6]))
        self.wrong_at(8, "mode on\n" + "".join(letters[:7]))
        rules = ["on go go on say yes\n"]
        read_program("mode on\n" + "".join(rules * 64))
        self.wrong_at(66, "mode on\n" + "".join(rules * 65))


if __name__ == "__main__":
    unittest.main()
