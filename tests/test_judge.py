"""Tests of fademodes.judge: claims, their certificates, and how these are checked [38], [39]."""

import unittest
from itertools import product

from examples import HELD, ODD_VALUES, Checks, mute
from fademodes.alike import are_alike
from fademodes.cells import cell_of, cells_met, come_to
from fademodes.ends import end_of, ends
from fademodes.cuts import Range, is_ahead
from fademodes.errors import InvalidClaim, TooMany
from fademodes.forgetting import forgotten_within
from fademodes.hands import forced_within
from fademodes.judge import certificate_of, is_certificate, is_claim
from fademodes.matters import mattering_cuts
from fademodes.moves import Move
from fademodes.needed import needed_cuts
from fademodes.programs import Program, Rule
from fademodes.ratios import Ratio
from samples import Chance, counter, grid_of, lights, two_levels

MUTE = mute()
START = ("open", {"x": 0})
MUTED = ("mute", {"x": 0})
STARTS = [START]
BOTH = [START, MUTED]

# For each kind a claim that is true and one that is not.
TRUE = (
    ("alike", MUTE, START, MUTE, ("open", {"x": 3})),
    ("unlike", MUTE, START, MUTE, MUTED),
    ("beyond", MUTE, STARTS, "x", "upper", (Ratio(31, 2), True)),
    ("beyond", MUTE, STARTS, "x", "lower", (0, True)),
    ("never beyond", MUTE, STARTS, "x", "upper", (16, True)),
    ("never beyond", MUTE, STARTS, "x", "lower", (0, False)),
    ("needed", MUTE, "mute", "x", (2, False)),
    ("matters", MUTE, "mute", "x", (Ratio(4), False)),
    ("safe", MUTE, START, ["open"], ["mute"]),
    ("forced", MUTE, START, [], ["mute"], 2),
    ("forgotten", MUTE, [START, ("open", {"x": 2})], 0),
    ("remembered", MUTE, BOTH),
)
FALSE = (
    ("alike", MUTE, START, MUTE, MUTED),
    ("unlike", MUTE, START, MUTE, ("open", {"x": 3})),
    ("beyond", MUTE, STARTS, "x", "upper", (16, True)),
    ("beyond", MUTE, STARTS, "x", "lower", (0, False)),
    ("never beyond", MUTE, STARTS, "x", "upper", (16, False)),
    ("never beyond", MUTE, STARTS, "x", "lower", (1, False)),
    ("needed", MUTE, "open", "x", (2, False)),
    ("matters", MUTE, "mute", "x", (4, True)),
    ("safe", MUTE, START, [], ["mute"]),
    ("forced", MUTE, START, [], ["mute"], 1),
    ("forgotten", MUTE, BOTH, 300),
    ("remembered", MUTE, STARTS),
)


def falling(many):
    """Return a program in which a level falls by 1 with each letter, and that asks whether there is something left."""
    held = Range(0, many)
    less = {"x": Move.adding(-1, held)}
    return Program({"x": held}, {"on": {"go": [Rule("on", "some", when=[("x", "above", 0)], moves=less), Rule("on", "none", moves=less)]}})


def all_values():
    """Return values of many kinds: certificates of all kinds of claims, and others."""
    return [certificate_of(claim) for claim in TRUE] + list(ODD_VALUES) + [-1, ("open",), [["tick"]], ([], [], []), ({}, {}, []), {"open": {}}]


def chances():
    """Return tuples (program, chance) of small programs."""
    found = [(MUTE, Chance(1)), (lights(), Chance(2)), (two_levels(), Chance(3)), (falling(3), Chance(4))]
    for seed in range(24):
        chance = Chance(seed)
        found.append((chance.program(seed % 3), chance))
    return found


class Claims(Checks):
    def test_claims(self):
        for claim in TRUE + FALSE:
            self.assertIs(is_claim(claim), True)
        self.assertIs(is_claim(value=("remembered", lights(), (("red", {}),))), True)
        self.assertIs(is_claim(("safe", MUTE, START, ("open", "mute"), ("no",))), True)
        self.assertIs(is_claim(("safe", MUTE, START, [], [])), True)
        self.assertIs(is_claim(("needed", MUTE, "open", "x", (99, True))), True)
        self.assertIs(is_claim(("forced", MUTE, START, [], [], 0)), True)
        self.assertIs(is_claim(("alike", lights(), ("red", {}), lights(), ("amber", {}))), True)

    def test_values_that_are_no_claims(self):
        for claim in TRUE:
            for value in (list(claim), claim[:-1], claim + (None,), claim[1:], ("other",) + claim[1:], (None,) + claim[1:], ([claim[0]],) + claim[1:], claim[:1]):
                self.refused(value)
            for at in range(1, len(claim)):
                for value in ODD_VALUES + (True, -1, "shut", "Open"):
                    if not self.may_stand(claim, at, value):
                        self.refused(claim[:at] + (value,) + claim[at + 1:])
        for value in ODD_VALUES:
            self.refused(value)

    def may_stand(self, claim, at, value):
        """Tell whether an odd value is good at this position, too."""
        if claim[0] in ("safe", "forced") and at in (3, 4):
            return value in ([], ()) and isinstance(value, (list, tuple))
        return claim[at] == value

    def test_some_that_are_nearly_claims(self):
        other = Program({}, {"on": {"tick": [Rule("on", "no")]}})
        for value in (("alike", MUTE, START, other, ("on", {})), ("alike", MUTE, START, lights(), ("red", {})), ("alike", MUTE, START, MUTE, ("red", {})),
                      ("alike", lights(), START, MUTE, START), ("beyond", MUTE, [], "x", "upper", (1, True)), ("beyond", MUTE, STARTS, "y", "upper", (1, True)),
                      ("beyond", MUTE, STARTS, "x", "up", (1, True)), ("beyond", MUTE, STARTS, "x", "upper", (1, 1)), ("beyond", MUTE, STARTS + [1], "x", "upper", (1, True)),
                      ("needed", MUTE, "shut", "x", (1, True)), ("needed", MUTE, "open", "y", (1, True)), ("matters", MUTE, "open", "x", [1, True]),
                      ("safe", MUTE, ("open", {"x": HELD.outer()}), [], []), ("safe", MUTE, START, ["shut"], []), ("safe", MUTE, START, ["open"], ["No"]),
                      ("safe", MUTE, START, "open", ["no"]), ("forced", MUTE, START, [], [], -1), ("forced", MUTE, START, [], [], True), ("forced", MUTE, START, [], []),
                      ("forgotten", MUTE, STARTS, -1), ("forgotten", MUTE, STARTS, False), ("forgotten", MUTE, STARTS), ("remembered", MUTE, STARTS, 1), ("remembered", MUTE),
                      ("never_beyond",) + TRUE[4][1:], ("neverbeyond",) + TRUE[4][1:], ("Alike",) + TRUE[0][1:], (), ("alike",)):
            self.refused(value)

    def refused(self, value):
        self.assertIs(is_claim(value), False)
        self.refuses(InvalidClaim, {"value": value}, is_certificate, value, None)
        self.refuses(InvalidClaim, {"value": value}, certificate_of, value)


class Certificates(Checks):
    def test_claims_that_are_true(self):
        for claim in TRUE:
            found = certificate_of(claim)
            self.assertIsNotNone(found, claim)
            self.assertIs(is_certificate(claim, found), True)
            self.assertIs(is_certificate(value=found, claim=claim), True)
            self.same(certificate_of(claim=claim), found)

    def test_claims_that_are_not(self):
        for claim in FALSE:
            self.same(certificate_of(claim), None)
            for value in all_values():
                self.assertIs(is_certificate(claim, value), False, (claim, value))

    def test_values_of_other_kinds(self):
        for claim in TRUE:
            for value in list(ODD_VALUES) + [-1, ("open",), [["tick"]], ([], [], []), ({}, {}, [])]:
                self.assertIs(is_certificate(claim, value), False, (claim, value))

    def test_kinds_of_certificates(self):
        kinds = [(tuple, 3), (list, None), (tuple, 5), (tuple, 5), (tuple, 2), (tuple, 2), (tuple, 3), (tuple, 3), (dict, None), (dict, None), (dict, None), (tuple, 5)]
        for claim, (kind, many) in zip(TRUE, kinds):
            found = certificate_of(claim)
            self.assertIs(type(found), kind)
            self.assertIn(many, (None, len(found)))

    def test_new_each_time(self):
        found = [certificate_of(claim) for claim in TRUE]
        for value in found:
            for part in value if isinstance(value, tuple) else [value]:
                if isinstance(part, (list, dict)):
                    part.clear()
        for claim in TRUE:
            self.assertIs(is_certificate(claim, certificate_of(claim)), True)

    def test_claims_with_tuples_for_lists(self):
        for claim in TRUE:
            same = tuple(tuple(part) if isinstance(part, list) else part for part in claim)
            self.assertIs(is_certificate(same, certificate_of(claim)), True)
            self.same(certificate_of(same), certificate_of(claim))


class OneThingOtherwise(Checks):
    def test_unlike(self):
        claim = TRUE[1]
        for value, wanted in ((["report"], True), (("report",), True), (["tick"], False), ([], False), (["report", "tick", "tick"], True), (["tick", "report"], False),
                              (["report"] * 500, True), (["report", "tock"], False), (["report", None], False)):
            self.assertIs(is_certificate(claim, value), wanted)
        # It is enough that some answer differs, not only the last one.
        one = Program({}, {"a": {"go": [Rule("b", "x")]}, "b": {"go": [Rule("b", "z")]}})
        self.assertIs(is_certificate(("unlike", one, ("a", {}), one, ("b", {})), ["go", "go"]), True)

    def test_beyond(self):
        claim = TRUE[2]
        paper = certificate_of(claim)
        self.assertIs(is_certificate(claim, paper[:2] + ([],) + paper[3:]), False)
        self.assertIs(is_certificate(claim, (1,) + paper[1:]), False)
        self.assertIs(is_certificate(claim, paper[:1] + (MUTED,) + paper[2:]), False)
        self.assertIs(is_certificate(claim, (0, START, ["report"] * 2, [], [])), True)
        self.assertIs(is_certificate(claim, (0, START, ["report"], [], [])), False)
        self.assertIs(is_certificate(claim, (0, START, ["report"], ["report"], [])), False)
        # Approached is beyond: 32/3 is never met, but passed is each number below it.
        round_paper = (0, START, [], ["report", "tick", "tick"], ["report"])
        for number, wanted in ((Ratio(32, 3), False), (Ratio(319, 30), True), (0, True)):
            self.assertIs(is_certificate(("beyond", MUTE, STARTS, "x", "upper", (number, False)), round_paper), wanted)

    def test_never_beyond(self):
        claim = TRUE[4]
        family, table = certificate_of(claim)
        cell = ("open", (0,))
        for value, wanted in (((family, {key: (16, True) for key in table}), True), ((family, {**table, cell: (16, True)}), False), ((family, {**table, cell: (17, False)}), False), ((family, {**table, cell: (0, False)}), False),
                              ((family, {key: table[key] for key in table if key != cell}), False), ((family, list(table)), False), ((table, family), False)):
            self.assertIs(is_certificate(claim, value), wanted)
        self.assertIs(is_certificate(("never beyond", MUTE, STARTS, "x", "upper", (15, True)), (family, table)), False)
        self.assertIs(is_certificate(("never beyond", MUTE, STARTS, "x", "upper", (17, False)), (family, table)), True)

    def test_needed_and_matters(self):
        self.assertIs(is_certificate(("needed", MUTE, "open", "x", (4, False)), ([], ("open", "report", 0), 0)), True)
        self.assertIs(is_certificate(("needed", MUTE, "open", "x", (8, False)), ([], ("open", "report", 0), 0)), False)
        self.assertIs(is_certificate(("needed", MUTE, "open", "x", (8, False)), ([("open", "tick", 0)], ("open", "report", 0), 0)), True)
        good = (("open", {"x": 2}), ("open", {"x": 5}), ["report"])
        self.assertIs(is_certificate(("matters", MUTE, "open", "x", (4, False)), good), True)
        for value in (good[::-1], (good[1], good[0], good[2]), good[:2] + (["tick"],), good[:2] + ([],), (good[0], ("open", {"x": 9}), good[2])):
            self.assertIs(is_certificate(("matters", MUTE, "open", "x", (4, False)), value), False)

    def test_safe(self):
        claim = TRUE[8]
        for value, wanted in (({("open", (0,)): "tick"}, True), ({("open", (1,)): "tick"}, False), ({("open", (1,)): "tick", ("open", (0,)): "tick"}, True),
                              ({("open", (0,)): "report"}, False), ({("open", (0,)): None}, False), ({}, False), ({("open", (0,)): "tick", ("mute", (0,)): None}, False)):
            self.assertIs(is_certificate(claim, value), wanted)

    def test_forced(self):
        claim = TRUE[9]
        good = {("open", (0,)): 2, ("open", (2,)): 1}
        for value, wanted in ((good, True), ({("open", (2,)): 1}, False), ({("open", (0,)): 3, ("open", (2,)): 1}, False), ({**good, ("open", (0,)): 1}, False),
                              ({**good, ("open", (3,)): 7}, True), ({}, False)):
            self.assertIs(is_certificate(claim, value), wanted)
        self.assertIs(is_certificate(claim[:5] + (3,), {("open", (0,)): 3, ("open", (2,)): 1}), True)
        self.assertIs(is_certificate(claim[:5] + (1,), good), False)
        self.assertIs(is_certificate(claim[:5] + (0,), {}), False)

    def test_forgotten(self):
        program = falling(2)
        starts = [("on", {"x": 0}), ("on", {"x": 2})]
        claim = ("forgotten", program, starts, 2)
        low, mid, high = ("on", (0,)), ("on", (1,)), ("on", (2,))
        good = {(low, low): 0, (low, mid): 1, (low, high): 2, (high, high): 0, (mid, mid): 0}
        self.assertIs(is_certificate(claim, good), True)
        found = certificate_of(claim)
        self.assertEqual(list(found), sorted(found))
        self.same(found, {pair: good[pair] for pair in sorted(good)})
        self.assertIs(is_certificate(claim[:3] + (1,), good), False)
        self.assertIs(is_certificate(claim[:3] + (9,), good), True)
        self.same(certificate_of(claim[:3] + (1,)), None)
        for pair in good:
            less = {key: good[key] for key in good if key != pair}
            self.assertIs(is_certificate(claim, less), False)
            if good[pair]:
                self.assertIs(is_certificate(claim, {**good, pair: good[pair] - 1}), False)
            for value in (True, None, -1, "0", Ratio(0), [0]):
                self.assertIs(is_certificate(claim, {**good, pair: value}), False)
        self.assertIs(is_certificate(claim, {**good, (mid, high): 1}), False)
        self.assertIs(is_certificate(claim, {**good, (mid, high): 2}), True)
        self.assertIs(is_certificate(claim, {**good, (low, high): 3}), False)
        for key in ((mid, low), (low,), (low, mid, high), low, None, (low, ("on", (3,))), (low, None), ("on", "on"), 1, (("on", (False,)), mid, mid)):
            self.assertIs(is_certificate(claim, {**good, key: 2}), False)
        # A cell with itself may have more than 0, as long as it comes down.
        self.assertIs(is_certificate(claim, {**good, (high, high): 2, (mid, mid): 1}), True)
        self.assertIs(is_certificate(claim, {**good, (low, low): 1}), False)

    def test_answers_must_be_equal_at_0(self):
        rules = {"a": {"go": [Rule("a", "one")]}, "b": {"go": [Rule("b", "two")]}, "c": {"go": [Rule("c", "one")]}}
        program = Program({}, rules)
        for other, wanted in (("b", False), ("c", True)):
            one, second = ("a", ()), (other, ())
            value = {(one, one): 0, (one, second): 0, (second, second): 0}
            self.assertIs(is_certificate(("forgotten", program, [("a", {}), (other, {})], 5), value), wanted)

    def test_remembered(self):
        claim = TRUE[11]
        state, other, ahead, turn, parting = certificate_of(claim)
        good = (state, other, ahead, turn, parting)
        self.assertIs(is_certificate(claim, good), True)
        self.assertIs(is_certificate(claim, good[:2] + (tuple(ahead), tuple(turn), tuple(parting))), True)
        self.assertIs(is_certificate(claim, (other, state) + good[2:]), True)
        self.assertIs(is_certificate(claim, good[:3] + (turn * 5, parting)), True)
        for value in (list(good), good[:4], good + ([],), good[:4] + ([],), good[:3] + ([], parting), good[:3] + (turn + ["tick"] * 9, parting), (state, state) + good[2:],
                      (("open", {"x": 1}),) + good[1:], good[:4] + (["tock"],), good[:4] + (None,)):
            self.assertIs(is_certificate(claim, value), False)
        one = Program({}, {"a": {"go": [Rule("a", "x")], "run": [Rule("b", "no")]}, "b": {"go": [Rule("b", "z")], "run": [Rule("a", "no")]}})
        check = ("remembered", one, [("a", {}), ("b", {})])
        for parting, wanted in ((["go"], True), (["run"], False), (["go", "run"], False), (["run", "go"], True)):
            self.assertIs(is_certificate(check, (("a", {}), ("b", {}), [], ["go"], parting)), wanted)
            self.assertIs(is_certificate(check, (("a", {}), ("b", {}), [], ["run"], parting)), False)


class Opposites(Checks):
    """Of two opposite claims just one has a certificate, and it is the one that is true."""

    def check_one(self, claim, other, is_true):
        found, second = certificate_of(claim), certificate_of(other)
        self.assertIs(found is not None, is_true)
        self.assertIs(second is None, is_true)
        for one, value in ((claim, found), (other, second)):
            if value is not None:
                self.assertIs(is_certificate(one, value), True)
                opposite = other if one is claim else claim
                self.assertIs(is_certificate(opposite, value), False)

    def test_alike(self):
        for program, chance in chances():
            for _ in range(6):
                state, other = chance.state(program), chance.state(program)
                self.check_one(("alike", program, state, program, other), ("unlike", program, state, program, other), are_alike(program, state, program, other))

    def test_beyond(self):
        for program, chance in chances():
            starts = [chance.start(program) for _ in range(2)]
            for level, side in product(program.levels(), ("upper", "lower")):
                last = end_of(program, starts, level, side)
                cuts = [last, (last[0], not last[1])] + [(chance.inside(program.levels()[level]), True) for _ in range(3)]
                for cut in cuts + list(ends(program, starts, level, side).values())[:2]:
                    is_true = is_ahead(cut, last) if side == "upper" else is_ahead(last, cut)
                    self.check_one(("beyond", program, starts, level, side, cut), ("never beyond", program, starts, level, side, cut), is_true)

    def test_safe(self):
        for program, chance in chances():
            state = chance.state(program)
            for hand, bad in product(([], program.modes(), program.modes()[:1]), (program.answers()[:1], program.answers()[1:])):
                many = forced_within(program, state, hand, bad)
                self.check_one(("safe", program, state, hand, bad), ("forced", program, state, hand, bad, 3000), many is None)
                if many is not None:
                    self.assertIsNotNone(certificate_of(("forced", program, state, hand, bad, many)))
                    self.same(certificate_of(("forced", program, state, hand, bad, many - 1)), None)

    def test_forgotten(self):
        some = {True: 0, False: 0}
        for program, chance in chances():
            starts = [chance.start(program) for _ in range(2)]
            many = forgotten_within(program, starts)
            some[many is None] += 1
            self.check_one(("remembered", program, starts), ("forgotten", program, starts, 3000), many is None)
            if many is not None:
                self.assertIsNotNone(certificate_of(("forgotten", program, starts, many)))
            if many:
                self.same(certificate_of(("forgotten", program, starts, many - 1)), None)
        self.assertGreater(min(some.values()), 3)

    def test_cuts(self):
        for program, chance in chances():
            needed, mattering = needed_cuts(program), mattering_cuts(program)
            for mode, level in product(program.modes(), program.levels()):
                for cut in needed[mode][level] + [(chance.inside(program.levels()[level]), False) for _ in range(2)]:
                    for kind, family in (("needed", needed), ("matters", mattering)):
                        claim = (kind, program, mode, level, cut)
                        found = certificate_of(claim)
                        self.assertIs(found is not None, cut in family[mode][level])
                        self.assertIs(is_certificate(claim, found), found is not None)


class Limits(Checks):
    def test_cuts(self):
        much, few, state = counter(601), counter(600), ("on", {"x": 0})
        limit = {"kind": "cuts", "limit": 600}
        for claim in (("alike", few, state, much, state), ("alike", much, state, few, state), ("unlike", much, state, much, state), ("beyond", much, [state], "x", "upper", (5, True)),
                      ("never beyond", much, [state], "x", "upper", (601, True)), ("needed", much, "on", "x", (5, False)), ("matters", much, "on", "x", (5, False)),
                      ("safe", much, state, [], []), ("forced", much, state, [], [], 4), ("forgotten", much, [state], 4), ("remembered", much, [state])):
            self.assertIs(is_claim(claim), True)
            self.refuses(TooMany, limit, certificate_of, claim)
        for claim in (("unlike", few, state, few, ("on", {"x": 1})), ("beyond", few, [state], "x", "upper", (599, True)), ("never beyond", few, [state], "x", "upper", (600, True)),
                      ("needed", few, "on", "x", (5, False)), ("matters", few, "on", "x", (5, False)), ("forced", few, state, [], ["yes"], 601), ("forgotten", few, [state], 0),
                      ("remembered", few, [state, ("on", {"x": 600})]), ("alike", few, state, few, ("on", {"x": Ratio(1, 2)}))):
            found = certificate_of(claim)
            self.assertIs(is_certificate(claim, found), True)

    def test_many_cells(self):
        few, state = grid_of(50, 60), ("on", {"x": 0, "y": 0})
        for claim in (("forced", few, state, [], ["yes"], 109), ("safe", few, state, ["on"], ["yes"]), ("beyond", few, [state], "y", "upper", (58, True)),
                      ("forgotten", few, [state], 0)):
            self.assertIs(is_certificate(claim, certificate_of(claim)), True)
        self.assertEqual(cell_of(few, state), ("on", (0, 0)))

    def test_long_certificates(self):
        state, other = ("on", {"x": 0}), ("on", {"x": 1})
        few = counter(600)
        found = certificate_of(("unlike", few, state, few, other))
        self.assertEqual(found, ["up"] * 599 + ["ask"])
        program = falling(190)
        starts = [("on", {"x": Range(0, 190).outer()})]
        found = certificate_of(("forgotten", program, starts, 190))
        many = len(cells_met(program, starts))
        self.assertEqual((len(list(come_to(program, starts))), len(found)), (many, many * (many + 1) // 2))
        self.assertIs(is_certificate(("forgotten", program, starts, 190), found), True)


if __name__ == "__main__":
    unittest.main()
