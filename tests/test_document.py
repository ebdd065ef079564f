"""Tests that the examples of the document answer as written, of MUTE, and of the names of the interface."""

import doctest
import importlib
import inspect
import unittest

from examples import mute
from fademodes.cells import come_to
from fademodes.courses import Course
from fademodes.desk import Desk
from fademodes.ends import end_of
from fademodes.needed import needed_cuts
from fademodes.ratios import Ratio
from fademodes.runs import step
from fademodes.texts import program_text

CELLS = """
>>> from fademodes.cells import cell_of, come_to
>>> from fademodes.needed import needed_cuts
>>> from fademodes.programs import Program, Rule
>>> from fademodes.cuts import Range
>>> from fademodes.moves import Move
>>> held = Range(0, 16)
>>> half, more = {"x": Move.dividing(2, held)}, {"x": Move.adding(8, held)}
>>> open_rules = {"tick": [Rule("open", "open", moves=half)],
...     "report": [Rule("mute", "mute", when=[("x", "from", 4)], moves=more), Rule("open", "open", moves=more)]}
>>> mute_rules = {"tick": [Rule("open", "open", when=[("x", "below", 2)]), Rule("mute", "mute", moves=half)],
...     "report": [Rule("mute", "mute", moves=more)]}
>>> program = Program({"x": held}, {"open": open_rules, "mute": mute_rules})
>>> needed_cuts(program)["open"]
{'x': [(Ratio(4, 1), False), (Ratio(8, 1), False), (Ratio(16, 1), False)]}
>>> [len(list(come_to(program, [("open", {"x": 0})]))), cell_of(program, ("open", {"x": 5}))]
[8, ('open', (1,))]
"""

ENDS = """
>>> from fademodes.ends import end_of
>>> starts = [("open", {"x": 0})]
>>> [end_of(program, starts, "x", "upper", "open"), end_of(program, starts, "x", "upper", "mute")]
[(Ratio(32, 3), False), (Ratio(16, 1), True)]
"""

SLACK = """
>>> from fademodes.slack import slack
>>> slack(program, starts, ("open", "report", 0), 0)
((Ratio(8, 3), False), (Ratio(4, 1), True))
"""

DESK = """
>>> from fademodes.desk import Desk
>>> desk = Desk()
>>> lines = ["level x: 0 16", "mode calm", "on tick go calm say calm; x by 2 add 0 in 0 16"]
>>> desk.do("put a " + " | ".join(lines))
'done'
>>> [desk.do("set a calm x=8"), desk.do("do a tick tick"), desk.do("show a"), desk.do("cuts a calm x")]
['done', 'calm calm', 'calm x=2', '-']
"""

MOVES = """
>>> halved = Move(2, 8, 0, 16)
>>> [str(halved.at(3)), halved.tends(0), halved.tends(40)]
['11/2', (Ratio(8, 1), None), (Ratio(8, 1), None)]
>>> [halved.back((6, False), Range(0, 16)), halved.back((16, True), Range(0, 16))]
[(Ratio(4, 1), False), (Ratio(16, 1), True)]
"""


class Document(unittest.TestCase):
    def test_examples(self):
        examples = doctest.DocTestParser().get_doctest(CELLS + ENDS + SLACK + MOVES + DESK, {}, "document", None, 0)
        found = doctest.DocTestRunner().run(examples)
        self.assertEqual((found.failed, found.attempted), (0, 25))


class Mute(unittest.TestCase):
    """The program MUTE of point 13, with what the document tells of it."""

    def test_steps(self):
        program = mute()
        for state, letter, wanted in ((("open", {"x": 5}), "tick", ("open", {"x": Ratio(5, 2)})), (("open", {"x": 3}), "report", ("open", {"x": Ratio(11)})),
                                      (("open", {"x": 4}), "report", ("mute", {"x": Ratio(12)})), (("open", {"x": 9}), "report", ("mute", {"x": Ratio(16)})),
                                      (("mute", {"x": Ratio(3, 2)}), "tick", ("open", {"x": Ratio(3, 2)})), (("mute", {"x": 2}), "tick", ("mute", {"x": Ratio(1)})),
                                      (("mute", {"x": 1}), "report", ("mute", {"x": Ratio(9)}))):
            behind, answer, _ = step(program, state, letter)
            self.assertEqual((behind, answer), (wanted, wanted[0]))

    def test_its_text(self):
        lines = program_text(mute()).splitlines()
        self.assertEqual(lines, ["level x: 0 16", "mode mute", "on report go mute say mute; x by 1 add 8 in 0 16", "on tick if x below 2 go open say open",
                                 "on tick go mute say mute; x by 2 add 0 in 0 16", "mode open", "on report if x from 4 go mute say mute; x by 1 add 8 in 0 16",
                                 "on report go open say open; x by 1 add 8 in 0 16", "on tick go open say open; x by 2 add 0 in 0 16"])

    def test_needed_cuts(self):
        for mode, numbers in (("open", (4, 8, 16)), ("mute", (2, 4, 8, 16))):
            self.assertEqual(needed_cuts(mute())[mode], {"x": [(Ratio(number), False) for number in numbers]})

    def test_ends(self):
        starts = [("open", {"x": 0})]
        found = {mode: end_of(mute(), starts, "x", "upper", mode) for mode in ("open", "mute")}
        self.assertEqual(found, {"open": (Ratio(32, 3), False), "mute": (Ratio(16), True)})
        self.assertEqual(end_of(mute(), starts, "x", "lower"), (Ratio(0), False))
        self.assertEqual(len(list(come_to(mute(), starts))), 8)


class Interface(unittest.TestCase):
    """Each name stands in the file under which the interface lists it, and is defined there."""

    FILES = {
        "slack": "deciding slack beyond_slack slacks", "courses": "Course", "prices": "cheapest_to longest_without shares",
        "hands": "safe_cells is_safe forced_within safe_stretches setting_stretches choices is_choices is_ranks ranks",
        "watching": "heard_ends heard_modes telling is_telling", "judge": "is_claim is_certificate certificate_of", "desk": "Desk",
        "forgetting": "forgotten_within remembered is_remembered still_apart matters_within"}
    METHODS = {"courses": (Course, "begin ring stands_from cell limits limit_cell walk"), "desk": (Desk, "do do_all undo log tried names set_most most")}

    def test_names(self):
        for stem, names in self.FILES.items():
            module = importlib.import_module("fademodes." + stem)
            for name in names.split():
                self.assertEqual(getattr(module, name).__module__, "fademodes." + stem)

    def test_methods(self):
        for stem, (found, names) in self.METHODS.items():
            for name in names.split():
                self.assertIn(name, vars(found), stem)

    def test_parameters(self):
        wanted = {"deciding": "program starts place position", "beyond_slack": "program starts place position number", "slacks": "program starts",
                  "setting_stretches": "program state place level hand bad", "is_choices": "program hand bad value", "cheapest_to": "program starts answer prices",
                  "longest_without": "program starts answers", "shares": "program state answer", "heard_ends": "program starts heard level", "telling": "program starts",
                  "is_telling": "program starts history", "is_remembered": "program starts value", "matters_within": "program state level", "is_certificate": "claim value",
                  "safe_stretches": "program state level hand bad", "forced_within": "program state hand bad", "certificate_of": "claim", "is_claim": "value"}
        for stem, names in self.FILES.items():
            module = importlib.import_module("fademodes." + stem)
            for name in set(names.split()) & set(wanted):
                self.assertEqual(list(inspect.signature(getattr(module, name)).parameters), wanted[name].split())
        self.assertEqual(list(inspect.signature(Course).parameters), ["program", "state", "word"])


if __name__ == "__main__":
    unittest.main()
