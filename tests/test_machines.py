"""Tests of fademodes.machines: machines and least machines [20], with alike states [18]."""

import unittest
from itertools import product

from examples import ODD_VALUES, Checks, mute
from fademodes.cells import cells, state_in
from fademodes.classes import class_numbers
from fademodes.errors import InvalidHistory, InvalidPosition, InvalidProgram, InvalidRows, InvalidState, TooMany
from fademodes.machines import Machine, least_machine
from fademodes.ratios import Ratio
from fademodes.runs import answers_of
from samples import Chance, counter, grid_of, lights, two_levels

MUTE = mute()
ROWS = [{"a": ("yes", 1), "b": ("no", 0)}, {"a": ("no", 2), "b": ("no", 3)},
        {"a": ("yes", 3), "b": ("no", 2)}, {"a": ("no", 0), "b": ("no", 1)}]


def plain_parting(rows, one, other):
    """Return the first of the shortest histories with other last answers, looked for with all pairs."""
    waiting, seen = [(one, other, [])], {(one, other)}
    while waiting:
        row, second, history = waiting.pop(0)
        for letter in sorted(rows[row]):
            if rows[row][letter][0] != rows[second][letter][0]:
                return history + [letter]
            pair = rows[row][letter][1], rows[second][letter][1]
            if pair not in seen:
                seen.add(pair)
                waiting.append((*pair, history + [letter]))
    return None


def random_rows(chance, many, letters="ab", answers="uv"):
    pick = chance.random
    return [{letter: (pick.choice(answers), pick.randrange(many)) for letter in letters} for _ in range(many)]


def refined(answers, nexts):
    """Return numbers of classes: those of equal answers, parted by the classes of the next rows as long as that parts any."""
    numbers, many = answers, 0
    while len(set(numbers)) > many:
        many = len(set(numbers))
        numbers = [(numbers[row], *[numbers[led] for led in nexts[row]]) for row in range(len(nexts))]
        names = {}
        numbers = [names.setdefault(number, len(names)) for number in numbers]
    return numbers


def numbers_of_classes(rows):
    """Return for each row the least row that gives the same answers."""
    return [min(other for other in range(len(rows)) if plain_parting(rows, row, other) is None) for row in range(len(rows))]


def plain_least(rows):
    """Return the rows of the least machine of row 0, by the words of the document."""
    classes = numbers_of_classes(rows)
    met, found = [classes[0]], []
    while len(found) < len(met):
        row = {}
        for letter in sorted(rows[0]):
            answer, led = rows[met[len(found)]][letter]
            if classes[led] not in met:
                met.append(classes[led])
            row[letter] = (answer, met.index(classes[led]))
        found.append(row)
    return found


class Machines(Checks):
    def test_parts(self):
        machine = Machine(ROWS)
        self.same(machine.rows(), ROWS)
        self.same([machine.letters(), len(machine)], [["a", "b"], 4])
        self.same(Machine(rows=tuple(ROWS)).rows(), ROWS)
        turned = Machine([{"b": ("no", 0), "a": ("yes.sir", 0)}])
        self.same([turned.rows(), turned.letters(), len(turned)], [[{"a": ("yes.sir", 0), "b": ("no", 0)}], ["a", "b"], 1])

    def test_refused_as_a_whole(self):
        for value in ODD_VALUES:
            if value != [1]:
                self.refuses(InvalidRows, {"position": None}, Machine, value)

    def test_the_first_wrong_row(self):
        good = {"a": ("yes", 0), "b": ("no", 2)}
        wrong = [{"a": ("yes", 0)}, {"a": ("yes", 0), "c": ("no", 0)}, {**good, "c": ("no", 0)}, {**good, "b": ("no", 3)},
                 {**good, "b": ("no", -1)}, {**good, "b": ("no", True)}, {**good, "b": ("no", None)}, {**good, "b": ["no", 0]},
                 {**good, "b": ("no",)}, {**good, "b": ("no", 0, 0)}, {**good, "b": ("No", 0)}, {**good, "b": (None, 0)},
                 {**good, "b": None}, {"a": ("yes", 0), "B": ("no", 0)}, {"a": ("yes", 0), 1: ("no", 0)},
                 {"a": ("yes", 0), None: ("no", 0)}, list(good.items()), {**good, "b": ("no", Ratio(0))}]
        for value in wrong + list(ODD_VALUES):
            self.refuses(InvalidRows, {"position": 1}, Machine, [good, value, None])
            self.refuses(InvalidRows, {"position": 2}, Machine, (good, good, value))
        for value in ODD_VALUES + ({"a": ("yes", 3)}, {"a": ("yes", False)}):
            self.refuses(InvalidRows, {"position": 0}, Machine, [value, None])

    def test_answers(self):
        machine = Machine(ROWS)
        self.same(machine.answers(["a", "a", "b", "a", "a"]), ["yes", "no", "no", "yes", "no"])
        self.same(machine.answers(row=1, history=("a", "a")), ["no", "yes"])
        self.same([machine.answers([]), machine.answers((), 3)], [[], []])
        self.same(machine.answers(["a"] * 1000), ["yes", "no", "yes", "no"] * 250)

    def test_answers_refused(self):
        machine = Machine(ROWS)
        for value in ODD_VALUES:
            if value not in ([], (), [1]):
                self.refuses(InvalidHistory, {"position": None}, machine.answers, value, None)
            self.refuses(InvalidHistory, {"position": 1}, machine.answers, ["a", value, None], None)
        self.refuses(InvalidHistory, {"position": 300}, machine.answers, ["a"] * 300 + ["c"])
        for value in ODD_VALUES + (-1, 4):
            self.refuses(InvalidPosition, {"value": value}, machine.answers, ["a"], value)

    def test_parting(self):
        machine = Machine(ROWS)
        self.same([machine.parting(0, 1), machine.parting(other=3, row=0), machine.parting(1, 3)], [["a"], ["a"], None])
        self.same([machine.parting(2, 2), machine.parting(0, 2)], [None, None])

    def test_the_first_of_the_shortest(self):
        late = Machine([{"a": ("no", 1), "b": ("no", 2)}, {"a": ("no", 1), "b": ("yes", 1)},
                        {"a": ("yes", 2), "b": ("no", 2)}, {"a": ("no", 4), "b": ("no", 4)}, {"a": ("no", 4), "b": ("no", 4)}])
        self.same([late.parting(0, 3), late.parting(3, 0), late.parting(1, 2)], [["a", "b"], ["a", "b"], ["a"]])

    def test_parting_of_many_machines(self):
        for seed in range(40):
            chance = Chance(seed)
            rows = random_rows(chance, 9, "abc"[:1 + seed % 3], ("no", "no", "no", "yes"))
            machine = Machine(rows)
            for one, other in product(range(9), repeat=2):
                self.same(machine.parting(one, other), plain_parting(rows, one, other))

    def test_parting_refused(self):
        machine = Machine(ROWS)
        for value in ODD_VALUES + (-1, 4):
            self.refuses(InvalidPosition, {"value": value}, machine.parting, value, None)
            self.refuses(InvalidPosition, {"value": value}, machine.parting, 1, value)

    def test_reduced(self):
        self.same(Machine(ROWS).reduced().rows(), [{"a": ("yes", 1), "b": ("no", 0)}, {"a": ("no", 0), "b": ("no", 1)}])
        for seed in range(40):
            rows = random_rows(Chance(seed), 8, "abc"[:1 + seed % 3], ("no", "no", "no", "yes"))
            found = Machine(rows).reduced()
            self.same(found.rows(), plain_least(rows))
            self.assertTrue(found.reduced() == found)

    def test_classes_of_many_rows(self):
        for seed in range(60):
            pick = Chance(seed).random
            many, near = pick.choice((20, 60, 120)), seed % 2
            rows = [{letter: (pick.choice("uuuuuv"), max(0, at - pick.randint(0, 3)) if near else pick.randrange(many))
                     for letter in "abc"[:1 + seed % 3]} for at in range(many)]
            answers = [tuple(told[0] for told in row.values()) for row in rows]
            nexts = [[told[1] for told in row.values()] for row in rows]
            found, wanted = class_numbers(answers, nexts), refined(answers, nexts)
            self.assertEqual([found.index(number) for number in found], [wanted.index(number) for number in wanted])

    def test_reduced_with_many_rows(self):
        many = 900
        rows = [{"a": ("no", at + 1), "b": ("no", 0)} for at in range(many)] + [{"a": ("yes", 0), "b": ("no", 0)}]
        self.assertEqual(Machine(rows).reduced(), Machine(rows))
        twice = [{letter: (told[0], told[1] + many + 1) for letter, told in row.items()} for row in rows]
        self.assertEqual(Machine(rows[:-1] + [{"a": ("yes", many + 1), "b": ("no", 0)}] + twice).reduced(), Machine(rows))
        self.assertEqual(len(Machine(rows).parting(0, 1)), many)

    def test_equality(self):
        self.assertTrue(Machine(ROWS) == Machine(tuple(ROWS)))
        self.assertFalse(Machine(ROWS) != Machine(ROWS))
        for other in (Machine(ROWS[::-1]), Machine(ROWS).reduced(), ROWS, None, Machine([{"a": ("yes", 0)}])):
            self.assertFalse(Machine(ROWS) == other)
            self.assertTrue(Machine(ROWS) != other)

    def test_does_not_change(self):
        given = [{"a": ("yes", 0)}]
        machine = Machine(given)
        given[0]["a"] = ("no", 0)
        given.append(1)
        machine.rows()[0]["a"] = None
        machine.rows().append(1)
        machine.letters().append("b")
        self.same([machine.rows(), machine.letters()], [[{"a": ("yes", 0)}], ["a"]])


class LeastMachines(Checks):
    def test_mute(self):
        self.same(least_machine(MUTE, ("open", {"x": 0})).rows(), [
            {"report": ("open", 1), "tick": ("open", 0)}, {"report": ("mute", 2), "tick": ("open", 3)},
            {"report": ("mute", 2), "tick": ("mute", 4)}, {"report": ("mute", 4), "tick": ("open", 0)},
            {"report": ("mute", 2), "tick": ("mute", 5)}, {"report": ("mute", 4), "tick": ("mute", 6)},
            {"report": ("mute", 4), "tick": ("mute", 3)}])

    def test_lights(self):
        walk = {"go": ("walk", 0), "halt": ("stop", 1)}
        stop = {"go": ("stop", 0), "halt": ("stop", 1)}
        self.same(least_machine(lights(), ("green", {})).rows(), [walk, stop])
        self.same(least_machine(state=("amber", {}), program=lights()).rows(), [walk, stop])
        self.same(least_machine(lights(), ("red", {})).rows(), [
            {"go": ("stop", 1), "halt": ("stop", 0)}, {"go": ("walk", 1), "halt": ("stop", 0)}])

    def test_alike_states_and_others(self):
        one, other = least_machine(MUTE, ("open", {"x": 5})), least_machine(MUTE, ("open", {"x": Ratio(15, 2)}))
        self.assertTrue(one == other)
        self.assertFalse(one == least_machine(MUTE, ("open", {"x": 8})))
        self.assertFalse(least_machine(MUTE, ("mute", {"x": 1})) == least_machine(MUTE, ("mute", {"x": 2})))
        self.assertTrue(least_machine(lights(), ("green", {})) == least_machine(lights(), ("amber", {})))

    def test_gives_the_answers_of_the_program(self):
        chance = Chance(3)
        for program in (MUTE, two_levels(), counter(4)):
            for _ in range(5):
                state = chance.state(program)
                machine = least_machine(program, state)
                for history in product(program.letters(), repeat=5):
                    self.same(machine.answers(history), answers_of(program, state, history))
                self.assertTrue(machine.reduced() == machine)

    def test_by_the_words_of_the_document(self):
        for program in (MUTE, two_levels(), lights()):
            all_cells = list(cells(program))
            letters = program.letters()
            for cell in all_cells[::7]:
                state = state_in(program, cell)
                found = least_machine(program, state).rows()
                for at, row in enumerate(found):
                    self.assertEqual(list(row), letters)
                    for other in range(at):
                        self.assertIsNotNone(plain_parting(found, at, other))
                met = [0]
                for row in found:
                    met.extend(led for _, led in row.values() if led not in met)
                self.assertEqual(sorted(met), list(range(len(found))))
                fresh = [led for row in found for _, led in row.values()]
                self.assertEqual(list(dict.fromkeys([0] + fresh)), list(range(len(found))))

    def test_refused(self):
        for value in ODD_VALUES:
            self.refuses(InvalidProgram, {"value": value}, least_machine, value, None)
        for value in ODD_VALUES + (("open", {"x": 17}), ("open", {"x": ((0, False), (1, False))})):
            self.refuses(InvalidState, {"value": value}, least_machine, MUTE, value)

    def test_limits(self):
        self.refuses(InvalidState, {"value": None}, least_machine, counter(601), None)
        self.refuses(TooMany, {"kind": "cuts", "limit": 600}, least_machine, counter(601), ("on", {"x": 601}))
        self.assertEqual(len(least_machine(counter(600), ("on", {"x": 0}))), 601)
        much = grid_of(50, 61)
        self.refuses(TooMany, {"kind": "cells", "limit": 3000}, least_machine, much, ("on", {"x": 0, "y": 0}))
        self.assertEqual(len(least_machine(much, ("on", {"x": 1, "y": 0}))), 49 * 61)
        self.assertEqual(len(least_machine(grid_of(50, 60), ("on", {"x": 0, "y": 0}))), 3000)


if __name__ == "__main__":
    unittest.main()
