"""Test that the examples of the document answer as written."""

import doctest
import unittest

CELLS = """
>>> from fademodes.cells import cell_of, come_to
>>> from fademodes.needed import needed_cuts
>>> from fademodes.programs import Program, Rule
>>> from fademodes.cuts import Range
>>> from fademodes.moves import Move
>>> held = Range(0, 16)
>>> half, more = {"x": Move.dividing(2, held)}, {"x": Move.adding(8, held)}
>>> open_rules = {"tick": [Rule("open", "open", moves=half)],
...     "report": [Rule("mute", "mute", when=[("x", "from", 4)], moves=more), Rule("open", "open", moves=more)]}
>>> mute_rules = {"tick": [Rule("open", "open", when=[("x", "below", 2)]), Rule("mute", "mute", moves=half)],
...     "report": [Rule("mute", "mute", moves=more)]}
>>> program = Program({"x": held}, {"open": open_rules, "mute": mute_rules})
>>> needed_cuts(program)["open"]
{'x': [(Ratio(4, 1), False), (Ratio(8, 1), False), (Ratio(16, 1), False)]}
>>> [len(list(come_to(program, [("open", {"x": 0})]))), cell_of(program, ("open", {"x": 5}))]
[8, ('open', (1,))]
"""

ENDS = """
>>> from fademodes.ends import end_of
>>> starts = [("open", {"x": 0})]
>>> [end_of(program, starts, "x", "upper", "open"), end_of(program, starts, "x", "upper", "mute")]
[(Ratio(32, 3), False), (Ratio(16, 1), True)]
"""

MOVES = """
>>> halved = Move(2, 8, 0, 16)
>>> [str(halved.at(3)), halved.tends(0), halved.tends(40)]
['11/2', (Ratio(8, 1), None), (Ratio(8, 1), None)]
>>> [halved.back((6, False), Range(0, 16)), halved.back((16, True), Range(0, 16))]
[(Ratio(4, 1), False), (Ratio(16, 1), True)]
"""


class Document(unittest.TestCase):
    def test_examples(self):
        examples = doctest.DocTestParser().get_doctest(CELLS + ENDS + MOVES, {}, "document", None, 0)
        found = doctest.DocTestRunner().run(examples)
        self.assertEqual((found.failed, found.attempted), (0, 18))


if __name__ == "__main__":
    unittest.main()
