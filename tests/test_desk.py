"""Tests of fademodes.desk: commands, the log, and what is taken back [40], with texts [37]."""

import unittest

from examples import ODD_VALUES, Checks, mute
from fademodes.alike import parting
from fademodes.cells import cells
from fademodes.desk import Desk
from fademodes.ends import end_of
from fademodes.errors import (
    InvalidCommand, InvalidCount, InvalidHistory, InvalidSide, InvalidText, NameTaken, NothingToUndo, OtherLetters, TooMany,
    UnknownLevel, UnknownMode, UnknownName)
from fademodes.forgetting import forgotten_within
from fademodes.matters import mattering_cuts
from fademodes.needed import needed_cuts
from fademodes.ratios import Ratio
from fademodes.runs import answers_of
from fademodes.texts import cut_text, program_text, read_state, state_text
from samples import Chance, counter, grid_of, lights, two_levels

MUTE = mute()
CALM = "level x: 0 16 | mode calm | on tick go calm say calm; x by 2 add 0 in 0 16"
NO_COUNTS = tuple(value for value in ODD_VALUES) + (-1,)


def put(name, program):
    return f"put {name} " + program_text(program)[:-1].replace("\n", " | ")


def desk_with(**programs):
    desk = Desk()
    for name, program in programs.items():
        desk.do(put(name, program))
    return desk


class Commands(Checks):
    def test_the_example_of_the_document(self):
        desk = Desk()
        lines = ["level x: 0 16", "mode calm", "on tick go calm say calm; x by 2 add 0 in 0 16"]
        self.same(desk.do("put a " + " | ".join(lines)), "done")
        self.same([desk.do("set a calm x=8"), desk.do("do a tick tick"), desk.do("show a"), desk.do("cuts a calm x")], ["done", "calm calm", "calm x=2", "-"])

    def test_put_begins_at_the_first_mode_and_at_the_lows(self):
        desk = desk_with(a=MUTE, b=two_levels(), c=lights())
        self.same([desk.do(f"show {name}") for name in "abc"], ["mute x=0", "off x=0 y=-2", "amber"])
        self.same(desk.names(), ["a", "b", "c"])
        self.same(desk.do(command="show a"), "mute x=0")

    def test_text(self):
        for program in (MUTE, two_levels(), lights(), counter(3)):
            desk = desk_with(a=program)
            self.same("put a " + desk.do("text a"), put("a", program))
            again = Desk()
            again.do("put b.c " + desk.do("text a"))
            self.same(again.do("text b.c"), desk.do("text a"))
        self.same(desk_with(a=lights()).do("text a").split(" | ")[:3], ["mode amber", "on go go green say walk", "on halt go red say stop"])

    def test_set_and_do(self):
        desk = desk_with(a=two_levels())
        for seed in range(20):
            state = Chance(seed).state(two_levels())
            history = Chance(seed).random.choices(("beat", "rest"), k=1 + seed % 5)
            self.same(desk.do("set a " + state_text(two_levels(), state)), "done")
            self.same(desk.do("show a"), state_text(two_levels(), state))
            self.same(desk.do("do a " + " ".join(history)), " ".join(answers_of(two_levels(), state, history)))
        self.same(desk_with(a=lights()).do("do a go"), "walk")

    def test_cuts_and_matters(self):
        for program in (MUTE, two_levels(), counter(4)):
            desk = desk_with(a=program)
            for kind, found in (("cuts", needed_cuts(program)), ("matters", mattering_cuts(program))):
                for mode in program.modes():
                    for level in program.levels():
                        wanted = ", ".join(cut_text(cut) for cut in found[mode][level]) or "-"
                        self.same(desk.do(f"{kind} a {mode} {level}"), wanted)
        self.same(desk_with(a=MUTE).do("cuts a open x"), "below 4, below 8, below 16")
        self.same(desk_with(a=MUTE).do("matters a open x"), desk_with(a=MUTE).do("cuts a open x"))

    def test_ends(self):
        desk = desk_with(a=MUTE)
        for text in ("open x=0", "mute x=5", "open x=16"):
            desk.do(f"set a {text}")
            for side in ("upper", "lower"):
                self.same(desk.do(f"end a x {side}"), cut_text(end_of(MUTE, [read_state(MUTE, text)], "x", side)))
        desk.do("set a open x=0")
        self.same([desk.do("end a x upper"), desk.do("end a x lower")], ["above 16", "below 0"])

    def test_part(self):
        desk = desk_with(a=MUTE, b=MUTE)
        self.same([desk.do("part a a"), desk.do("part a b")], ["alike", "alike"])
        desk.do("set b open x=0")
        self.same(desk.do("part a b"), " ".join(parting(MUTE, ("mute", {"x": 0}), MUTE, ("open", {"x": 0}))))
        self.same([desk.do("part a b"), desk.do("part b a")], ["report", "report"])
        desk.do("set a open x=9")
        desk.do("set b open x=5")
        self.same(desk.do("part a b"), "tick report")

    def test_forget(self):
        text = "level x: 0 9 | mode on | on go if x above 0 go on say some; x by 1 add -1 in 0 9 | on go go on say none"
        desk = Desk()
        desk.do("put a " + text)
        self.same([desk.do("forget a on x=0 | on x=9"), desk.do("forget a on x=3 | on x=3"), desk.do("forget a on x=17/2 | on x=0")], ["9", "0", "9"])
        desk.do(put("b", MUTE))
        self.same(desk.do("forget b open x=0 | mute x=0"), "never")
        for one, other in (("open x=1", "open x=5"), ("mute x=1", "mute x=2"), ("mute x=16", "open x=16")):
            many = forgotten_within(MUTE, [read_state(MUTE, one), read_state(MUTE, other)])
            self.same(desk.do(f"forget b {one} | {other}"), "never" if many is None else str(many))
        self.same(desk.log()[1:], [put("b", MUTE)])


class Forms(Checks):
    def test_values_that_are_no_commands(self):
        desk = desk_with(a=MUTE)
        wrong = ["show  a", " show a", "show a ", "show", "show a a", "show A", "show a.b.c", "showa", "Show a", "show muteanything", "show a\n", "sh\now a", "text", "text a b",
                 "put", "put a", "put b |", "put b mode calm |", "put b | mode calm", "put b mode calm | | on", "put b  mode calm", "put B mode calm",
                 "set a", "set", "set a ", "set a  open x=0", "do a", "do a tick ", "do a tick  tick", "do a Tick", "do a tick 1", "do a tick,tick", "do",
                 "cuts a open", "cuts a", "cuts a open x x", "cuts a open X", "cuts a 1 x", "matters a open", "matters a open x x", "end a x", "end a x upper x", "end a x Upper", "end a",
                 "part a", "part a a a", "part a A", "forget a open x=0", "forget a open x=0 |", "forget a | open x=0", "forget a open x=0 | open x=1 | open x=2",
                 "forget a open x=0 open x=1", "forget a |", "forget a", "forget a open x=0 |  open x=0", "undo", "log", "names", "most 3", "", " ", "a show", "|", "show |"]
        for value in wrong + list(ODD_VALUES) + [["show a"], 7, b"show a", ("show a",)]:
            self.refuses(InvalidCommand, {"value": value}, desk.do, value)
        self.same(desk.log(), [put("a", MUTE)])

    def test_the_form_comes_first(self):
        desk = desk_with(a=MUTE)
        for value in ("show c x", "cuts c open", "put a |", "do c 1", "forget c x"):
            self.refuses(InvalidCommand, {"value": value}, desk.do, value)

    def test_names_with_points(self):
        desk = Desk()
        desk.do("put a.b " + CALM.replace("calm", "calm.low"))
        self.same([desk.do("show a.b"), desk.do("do a.b tick"), desk.do("cuts a.b calm.low x")], ["calm.low x=0", "calm.low", "-"])

    def test_bars(self):
        desk = desk_with(a=MUTE)
        for text in ("|", "| open x=0", "open x=0 |", "open | x=0"):
            self.refuses(InvalidText, {"line": 1}, desk.do, f"set a {text}")
        # A bar that touches a word belongs to it.
        self.refuses(InvalidText, {"line": 1}, desk.do, "put b level x: 0 16| mode calm")
        self.refuses(InvalidText, {"line": 1}, desk.do, "forget a open x=0| | open x=0")


class FirstErrors(Checks):
    def test_names(self):
        desk = desk_with(a=MUTE)
        self.refuses(NameTaken, {"name": "a"}, desk.do, "put a what")
        for command in ("set b what", "do b tick", "show b", "text b", "cuts b shut z", "matters b shut z", "end b z up", "part b c", "part b a", "forget b what | what"):
            self.refuses(UnknownName, {"value": "b"}, desk.do, command)
        self.refuses(UnknownName, {"value": "c"}, desk.do, "part a c")

    def test_modes_and_levels(self):
        desk = desk_with(a=MUTE)
        for kind in ("cuts", "matters"):
            self.refuses(UnknownMode, {"value": "shut"}, desk.do, f"{kind} a shut z")
            self.refuses(UnknownLevel, {"value": "z"}, desk.do, f"{kind} a open z")
        self.refuses(UnknownLevel, {"value": "z"}, desk.do, "end a z up")
        self.refuses(InvalidSide, {"value": "up"}, desk.do, "end a x up")

    def test_texts(self):
        desk = desk_with(a=MUTE)
        for text in ("shut x=0", "open", "open x=17", "open y=0", "open x=0 x=0", "open x=00", "x=0 open", "open x = 0"):
            self.refuses(InvalidText, {"line": 1}, desk.do, f"set a {text}")
            self.refuses(InvalidText, {"line": 1}, desk.do, f"forget a open x=0 | {text}")
            self.refuses(InvalidText, {"line": 1}, desk.do, f"forget a {text} | open x=0")
        rows = CALM.split(" | ")
        for lines, line in (([rows[0]], 1), (rows[:2], 2), (rows[1:], 2), ([rows[0], rows[0]] + rows[1:], 2), (rows + ["level y: 0 1"], 4), (rows + ["what"], 4), (["what"], 1),
                            (rows[:2] + [rows[2].replace("calm say", "storm say")], 3), ([rows[0].replace("0 16", "16 0")] + rows[1:], 1)):
            self.refuses(InvalidText, {"line": line}, desk.do, "put b " + " | ".join(lines))
        self.same(desk.names(), ["a"])

    def test_histories(self):
        desk = desk_with(a=MUTE)
        self.refuses(InvalidHistory, {"position": 1}, desk.do, "do a tick tock tuck")
        self.refuses(TooMany, {"kind": "letters", "limit": 300}, desk.do, "do a" + " tick" * 301)
        self.refuses(InvalidHistory, {"position": 300}, desk.do, "do a" + " tick" * 300 + " tock")
        self.same(desk.do("do a" + " tick" * 300), " ".join(["open"] * 300))
        self.same(len(desk.log()), 2)

    def test_other_letters(self):
        desk = desk_with(a=MUTE, b=lights())
        self.refuses(OtherLetters, {"letter": "go"}, desk.do, "part a b")

    def test_limits(self):
        desk = desk_with(a=counter(601), b=grid_of(50, 61))
        for command in ("cuts a on x", "matters a on x", "end a x upper", "part a a", "forget a on x=0 | on x=0"):
            self.refuses(TooMany, {"kind": "cuts", "limit": 600}, desk.do, command)
        for command in ("matters b on x", "end b x upper", "forget b on x=0 y=0 | on x=0 y=0"):
            self.refuses(TooMany, {"kind": "cells", "limit": 3000}, desk.do, command)
        self.refuses(UnknownLevel, {"value": "y"}, desk.do, "cuts a on y")
        self.same(len(desk_with(a=counter(600)).do("cuts a on x").split(", ")), 600)
        self.same(len(list(cells(grid_of(50, 60)))), 3000)


class Logs(Checks):
    def test_log_and_undo(self):
        desk = Desk()
        commands = ["put a " + CALM, "show a", "set a calm x=8", "do a tick", "text a", "cuts a calm x", "matters a calm x", "end a x upper", "part a a", "forget a calm x=1 | calm x=2",
                    "put b " + CALM, "do b tick tick"]
        shown = []
        for command in commands:
            desk.do(command)
            shown.append(desk.do("show a"))
        kept = [command for command in commands if command.split()[0] in ("put", "set", "do")]
        self.same(desk.log(), kept)
        self.same(desk.undo(), None)
        self.same(desk.log(), kept[:-1])
        self.same([desk.undo(), desk.names()], [None, ["a"]])
        self.same([desk.undo(), desk.do("show a")], [None, "calm x=8"])
        self.same([desk.undo(), desk.do("show a")], [None, "calm x=0"])
        self.same([desk.undo(), desk.names(), desk.log()], [None, [], []])
        self.refuses(NothingToUndo, {}, desk.undo)
        self.refuses(UnknownName, {"value": "a"}, desk.do, "show a")
        self.same(desk.do("put a " + CALM), "done")

    def test_commands_that_raise_change_nothing(self):
        desk = desk_with(a=MUTE)
        for command in ("put a " + CALM, "set a open x=99", "do a tick tock", "do a" + " tick" * 301, "put b what", 7):
            self.assertRaises(Exception, desk.do, command)
        self.same([desk.log(), desk.names(), desk.do("show a")], [[put("a", MUTE)], ["a"], "mute x=0"])

    def test_new_each_time(self):
        desk = desk_with(a=MUTE)
        desk.log().clear()
        desk.names().clear()
        self.same([desk.log(), desk.names()], [[put("a", MUTE)], ["a"]])

    def test_do_all(self):
        desk = Desk()
        self.same(desk.do_all(["put a " + CALM, "set a calm x=8", "do a tick", "show a"]), ["done", "done", "calm", "calm x=4"])
        self.same(desk.do_all(commands=()), [])
        desk.undo()
        self.same([desk.do("show a"), len(desk.log())], ["calm x=8", 2])
        for commands, error, fields in ((["do a tick", "do a tock", 7], InvalidHistory, {"position": 0}), (["do a tick", 7, "do a tock"], InvalidCommand, {"value": 7}),
                                        (["put b " + CALM, "put b " + CALM], NameTaken, {"name": "b"}), (["show c", None], UnknownName, {"value": "c"}),
                                        (["do a tick", "show a "], InvalidCommand, {"value": "show a "})):
            self.refuses(error, fields, desk.do_all, commands)
            self.same([desk.do("show a"), desk.log(), desk.names()], ["calm x=8", ["put a " + CALM, "set a calm x=8"], ["a"]])
        for value in ODD_VALUES + ("show a", {"show a": 1}):
            if not isinstance(value, (list, tuple)):
                self.refuses(InvalidCommand, {"value": value}, desk.do_all, value)
                self.refuses(InvalidCommand, {"value": value}, desk.tried, value)

    def test_tried(self):
        desk = desk_with(a=MUTE)
        self.same(desk.tried(["put b " + CALM, "set a open x=4", "do a report", "show a", "show b"]), ["done", "done", "mute", "mute x=12", "calm x=0"])
        self.same([desk.names(), desk.log(), desk.do("show a")], [["a"], [put("a", MUTE)], "mute x=0"])
        self.refuses(UnknownName, {"value": "b"}, desk.tried, ["set a open x=4", "show b"])
        self.same(desk.tried(commands=()), [])

    def test_most(self):
        desk = Desk()
        self.same(desk.most, 300)
        desk.do("put a " + CALM)
        for _ in range(299):
            desk.do("do a tick")
        limit = {"kind": "log", "limit": 300}
        for command in ("do a tick", "set a calm x=1", "put b " + CALM):
            self.refuses(TooMany, limit, desk.do, command)
            self.refuses(TooMany, limit, desk.do_all, [command])
            self.refuses(TooMany, limit, desk.tried, ["show a", command])
        self.same(desk.do("show a"), "calm x=0")
        self.refuses(InvalidHistory, {"position": 0}, desk.do, "do a tock")
        self.refuses(InvalidText, {"line": 1}, desk.do, "set a what")
        self.refuses(NameTaken, {"name": "a"}, desk.do, "put a what")
        desk.most = 301
        self.same([desk.do("do a tick"), desk.most], ["calm", 301])
        self.refuses(TooMany, {"kind": "log", "limit": 301}, desk.do, "do a tick")
        self.same(desk.set_most(2), None)
        self.same([desk.most, len(desk.log())], [2, 301])
        self.refuses(TooMany, {"kind": "log", "limit": 2}, desk.do, "do a tick")
        desk.undo()
        self.refuses(TooMany, {"kind": "log", "limit": 2}, desk.do, "do a tick")
        self.same([desk.do("text a"), len(desk.log())], [CALM, 300])

    def test_most_within_do_all(self):
        desk = Desk()
        desk.set_most(most=2)
        self.refuses(TooMany, {"kind": "log", "limit": 2}, desk.do_all, ["put a " + CALM, "do a tick", "show a", "do a tick"])
        self.same([desk.names(), desk.log()], [[], []])
        self.same(desk.do_all(["put a " + CALM, "do a tick", "show a"]), ["done", "calm", "calm x=0"])
        desk.undo()
        self.same(desk.tried(["do a tick"]), ["calm"])
        desk.most = 0
        self.refuses(TooMany, {"kind": "log", "limit": 0}, desk.do, "do a tick")

    def test_counts(self):
        desk = Desk()
        for value in NO_COUNTS:
            with self.assertRaises(InvalidCount) as caught:
                desk.most = value
            self.assertEqual(vars(caught.exception), {"value": value})
            self.refuses(InvalidCount, {"value": value}, desk.set_most, value)
        self.same(desk.most, 300)

    def test_two_desks(self):
        one, other = Desk(), Desk()
        one.do("put a " + CALM)
        other.do(put("a", MUTE))
        one.do("set a calm x=3")
        other.most = 5
        self.same([one.do("show a"), other.do("show a"), one.most, other.most], ["calm x=3", "mute x=0", 300, 5])
        other.undo()
        self.same([one.names(), other.names()], [["a"], []])

    def test_equality(self):
        one, other = desk_with(a=MUTE), desk_with(a=MUTE)
        self.assertEqual(one, other)
        one.do("set a open x=4")
        self.assertNotEqual(one, other)
        one.undo()
        self.assertEqual(one, other)
        one.most = 4
        self.assertNotEqual(one, other)
        self.assertNotEqual(one, None)

    def test_states_have_exact_numbers(self):
        desk = desk_with(a=two_levels())
        desk.do("set a on x=1/3 y=-3/2")
        desk.do("do a beat rest beat")
        self.assertEqual(read_state(two_levels(), desk.do("show a")), self.behind())

    def behind(self):
        state = ("on", {"x": Ratio(1, 3), "y": Ratio(-3, 2)})
        desk = Desk()
        desk.do_all([put("a", two_levels()), "set a " + state_text(two_levels(), state), "do a beat", "do a rest", "do a beat"])
        return read_state(two_levels(), desk.do("show a"))


if __name__ == "__main__":
    unittest.main()
