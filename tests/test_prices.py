"""Tests of fademodes.prices: cheapest histories, longest histories without answers, shares in rounds [32]."""

import unittest
from fractions import Fraction
from itertools import product

from examples import ODD_VALUES, Checks, fraction, mute
from fademodes.cells import cell_step, come_to
from fademodes.cuts import Range, is_within
from fademodes.errors import InvalidBad, InvalidName, InvalidPrices, InvalidProgram, InvalidStarts, InvalidState, TooMany
from fademodes.means import Valley
from fademodes.moves import Move
from fademodes.prices import cheapest_to, longest_without, shares
from fademodes.programs import Program, Rule
from fademodes.ratios import Ratio
from fademodes.runs import is_state
from samples import Chance, counter, grid_of, lights, plain_state, plain_step, two_levels

MUTE = mute()
STARTS = [("open", {"x": 0})]
PRICES = {"report": 5, "tick": 1}
NO_NAMES = tuple(value for value in ODD_VALUES if value != "x") + ("Open", "a.b.c", "muteanything")


def cases():
    """Return tuples (program, starts) of small programs."""
    found = [(MUTE, STARTS), (lights(), [("red", {})]), (lights(), [("green", {}), ("amber", {})])]
    for seed in range(50):
        chance = Chance(seed)
        program = chance.program(seed % 3)
        found.append((program, [chance.start(program) for _ in range(1 + seed % 3)]))
    chance = Chance(8)
    return found + [(two_levels(), [chance.start(two_levels()) for _ in range(2)])]


def answers_to(program, state, history):
    here, found = plain_state(state), []
    for letter in history:
        here, answer, _ = plain_step(program, here, letter)
        found.append(answer)
    return found


def is_in_start(state, start):
    rows = [(state[1][level], value) for level, value in start[1].items()]
    return state[0] == start[0] and all(is_within(number, value) if isinstance(value, tuple) else number == Ratio.of(value)
                                        for number, value in rows)


def cells_and_turns(program, starts):
    """Return the cells that are come to, those that the starts meet, and what letters do there."""
    rows = list(come_to(program, starts))
    turns = {cell: {letter: cell_step(program, cell, letter)[:2] for letter in program.letters()} for cell, _ in rows}
    return [cell for cell, _ in rows], [cell for cell, history in rows if not history], turns


class Cheapest(Checks):
    def check_found(self, program, starts, answer, prices):
        """Check the tuple that is found, and return its price."""
        found = cheapest_to(program, starts, answer, prices)
        if found is None:
            return None
        price, state, history = found
        self.assertIs(type(price), int)
        self.assertTrue(is_state(program, state) and any(is_in_start(state, start) for start in starts))
        self.assertTrue(all(isinstance(number, Ratio) for number in state[1].values()))
        self.assertEqual(answers_to(program, state, history)[-1], answer)
        self.assertEqual(sum(prices[letter] for letter in history), price)
        return price

    def test_mute(self):
        for answer, prices, wanted in (("open", PRICES, 1), ("mute", PRICES, 10), ("mute", {"report": 0, "tick": 0}, 0), ("open", {"report": 3, "tick": 9}, 3),
                                       ("shut", PRICES, None), ("mute", {"report": 10 ** 40, "tick": 0}, 2 * 10 ** 40)):
            self.same(self.check_found(MUTE, STARTS, answer, prices), wanted)
        self.same(cheapest_to(prices=PRICES, answer="mute", starts=STARTS, program=MUTE), (10, ("open", {"x": Ratio(0)}), ["report", "report"]))

    def test_the_cheapest_of_all_short_histories(self):
        for seed, (program, starts) in enumerate(cases()):
            chance = Chance(seed)
            letters = program.letters()
            for _ in range(3):
                prices = {letter: chance.random.choice((0, 1, 1, 2, 7)) for letter in letters}
                for answer in program.answers() + ["never"]:
                    self.same(self.check_found(program, starts, answer, prices), self.plain_price(program, starts, answer, prices))

    def plain_price(self, program, starts, answer, prices):
        """Return the least price by going over all cells again and again."""
        rows, met, turns = cells_and_turns(program, starts)
        paid = {cell: 0 for cell in met}
        for _ in rows:
            for cell in list(paid):
                for letter, (behind, _) in turns[cell].items():
                    paid[behind] = min(paid.get(behind, 10 ** 9), paid[cell] + prices[letter])
        return min((paid[cell] + prices[letter] for cell in rows for letter, told in turns[cell].items() if told[1] == answer), default=None)

    def test_no_short_history_is_cheaper(self):
        for seed, (program, _) in enumerate(cases()):
            chance = Chance(seed)
            starts = [chance.state(program) for _ in range(2)]
            prices = {letter: chance.random.choice((0, 1, 2, 3)) for letter in program.letters()}
            least = {}
            for start, many in product(starts, range(1, 6)):
                for history in product(program.letters(), repeat=many):
                    price, answer = sum(prices[letter] for letter in history), answers_to(program, start, history)[-1]
                    least[answer] = min(least.get(answer, price), price)
            for answer in program.answers():
                found = self.check_found(program, starts, answer, prices)
                if answer in least:
                    self.assertLessEqual(found, least[answer])
                # What is cheaper than all of these has more letters than were tried here.
                if found is not None and (answer not in least or found < least[answer]):
                    self.assertGreater(len(cheapest_to(program, starts, answer, prices)[2]), 5)

    def test_a_long_way_that_is_cheaper(self):
        held = Range(0, 400)
        rules = {"on": {"one": [Rule("on", "yes", when=[("x", "from", 400)]), Rule("on", "no", moves={"x": Move.adding(1, held)})],
                        "all": [Rule("on", "no", moves={"x": Move.setting(400)})]}}
        program, starts = Program({"x": held}, rules), [("on", {"x": 0})]
        self.same(cheapest_to(program, starts, "yes", {"one": 1, "all": 500}), (401, ("on", {"x": Ratio(0)}), ["one"] * 401))
        self.same(cheapest_to(program, starts, "yes", {"one": 1, "all": 399}), (400, ("on", {"x": Ratio(0)}), ["all", "one"]))
        self.same(self.check_found(program, starts, "yes", {"one": 0, "all": 0}), 0)

    def test_prices_that_are_none(self):
        for value in ODD_VALUES + ({"tick": 1}, {"report": 1}, {**PRICES, "more": 1}, {"report": 1, "tock": 1}, list(PRICES), list(PRICES.items()),
                                   {"report": 1, None: 1}):
            self.refuses(InvalidPrices, {"value": value}, cheapest_to, MUTE, STARTS, "mute", value)
        for value in ODD_VALUES + (-1, Ratio(1, 2)):
            self.refuses(InvalidPrices, {"value": {"report": 0, "tick": value}}, cheapest_to, MUTE, STARTS, "mute", {"report": 0, "tick": value})
        self.same(cheapest_to(MUTE, STARTS, "mute", {"tick": 1, "report": 5}), cheapest_to(MUTE, STARTS, "mute", PRICES))

    def test_new_each_time(self):
        found = cheapest_to(MUTE, STARTS, "mute", PRICES)
        found[1][1].clear()
        found[2].clear()
        self.same(cheapest_to(MUTE, STARTS, "mute", PRICES), (10, ("open", {"x": Ratio(0)}), ["report", "report"]))
        self.assertEqual(PRICES, {"report": 5, "tick": 1})


class Longest(Checks):
    def test_mute(self):
        for starts, answers, wanted in ((STARTS, ["mute"], None), (STARTS, ["mute", "open"], 0), ([("mute", {"x": 16})], ["mute"], 0), (STARTS, [], None),
                                        ([("mute", {"x": 1}), ("mute", {"x": 5})], ("mute",), None), (STARTS, ["other"], None)):
            self.same(longest_without(MUTE, starts, answers), wanted)
        self.same(longest_without(answers=["open"], starts=[("open", {"x": 0})], program=MUTE), 0)

    def test_all_short_histories(self):
        many = {}
        for program, starts in cases():
            for answers in (["u"], ["v"], ["walk"], ["yes"], [], ["u", "v"]):
                found = longest_without(program, starts, answers)
                self.same(found, self.plain_longest(program, starts, answers))
                many[found] = many.get(found, 0) + 1
        self.assertGreater(min(many[found] for found in (None, 0, 1, 2)), 0)

    def plain_longest(self, program, starts, answers):
        """Return the greatest number of letters, by leading all cells on as long as there are some."""
        rows, here, turns = cells_and_turns(program, starts)
        for many in range(len(rows) + 1):
            here = {behind for cell in here for behind, answer in turns[cell].values() if answer not in answers}
            if not here:
                return many
        return None

    def test_a_long_way(self):
        program = counter(500)
        self.same(longest_without(program, [("on", {"x": 100})], ["no"]), 0)
        ask = [Rule("on", "far", when=[("x", "from", 500)]), Rule("on", "near", moves={"x": Move.adding(1, Range(0, 500))})]
        program = Program({"x": Range(0, 500)}, {"on": {"ask": ask, "go": ask}})
        self.same(longest_without(program, [("on", {"x": 100}), ("on", {"x": Ratio(201, 2)})], ["far"]), 400)
        self.same(longest_without(program, [("on", {"x": 500})], ["far"]), 0)
        self.same(longest_without(program, [("on", {"x": 100})], ["near"]), 0)
        self.same(longest_without(program, [("on", {"x": 500})], ["near"]), None)

    def test_only_what_is_come_to_without_them(self):
        rules = {"a": {"go": [Rule("b", "yes")], "run": [Rule("c", "no")]}, "b": {letter: [Rule("b", "no")] for letter in ("go", "run")},
                 "c": {letter: [Rule("d", "no")] for letter in ("go", "run")}, "d": {letter: [Rule("b", "yes")] for letter in ("go", "run")}}
        program = Program({}, rules)
        self.same(longest_without(program, [("a", {})], ["yes"]), 2)
        self.same(longest_without(program, [("d", {})], ["yes"]), 0)
        self.same(longest_without(program, [("b", {})], ["yes"]), None)
        self.same(longest_without(program, [("a", {})], ["no"]), 1)


class Shares(Checks):
    def test_mute(self):
        for answer, wanted in (("open", (Ratio(0), Ratio(1))), ("mute", (Ratio(0), Ratio(1))), ("shut", (Ratio(0), Ratio(0)))):
            self.same(shares(answer=answer, state=STARTS[0], program=MUTE), wanted)

    def test_some_rounds(self):
        rules = {"a": {"go": [Rule("b", "yes")], "run": [Rule("c", "no")]}, "b": {"go": [Rule("c", "no")], "run": [Rule("a", "no")]},
                 "c": {"go": [Rule("a", "no")], "run": [Rule("a", "yes")]}}
        # Rounds: a b a (1 or 2), a c a (0 to 1 of 2), a b c a (1 or 2 of 3).
        self.same(shares(Program({}, rules), ("a", {}), "yes"), (Ratio(0), Ratio(2, 3)))
        self.same(shares(Program({}, rules), ("a", {}), "no"), (Ratio(1, 3), Ratio(1)))
        self.same(shares(lights(), ("red", {}), "walk"), (Ratio(0), Ratio(1)))

    def test_rounds_that_are_not_come_to(self):
        rules = {"a": {"go": [Rule("b", "yes")]}, "b": {"go": [Rule("c", "no")]}, "c": {"go": [Rule("b", "yes")]}, "d": {"go": [Rule("d", "yes")]}}
        self.same(shares(Program({}, rules), ("a", {}), "yes"), (Ratio(1, 2), Ratio(1, 2)))
        self.same(shares(Program({}, rules), ("d", {}), "yes"), (Ratio(1), Ratio(1)))

    def test_all_rounds_that_meet_no_cell_twice(self):
        some = 0
        for seed, (program, _) in enumerate(cases()):
            state = Chance(seed).state(program)
            for answer in program.answers():
                wanted = self.plain_shares(program, state, answer)
                found = shares(program, state, answer)
                self.same(found, tuple(Ratio(share.numerator, share.denominator) for share in wanted))
                some += wanted not in ((0, 0), (0, 1), (1, 1))
        self.assertGreater(some, 10)

    def plain_shares(self, program, state, answer):
        """Return the least and the greatest share by Karp's way, cell by cell."""
        rows, _, turns = cells_and_turns(program, [state])
        weights = {cell: [(behind, int(told == answer)) for behind, told in turns[cell].values()] for cell in rows}
        least = min(self.least_mean(rows, weights, cell) for cell in rows if self.goes_round(weights, cell))
        negative = {cell: [(behind, -weight) for behind, weight in weights[cell]] for cell in rows}
        return least, -min(self.least_mean(rows, negative, cell) for cell in rows if self.goes_round(weights, cell))

    def goes_round(self, weights, cell):
        here = {behind for behind, _ in weights[cell]}
        while cell not in here:
            more = here | {behind for other in here for behind, _ in weights[other]}
            if more == here:
                return False
            here = more
        return True

    def least_mean(self, rows, weights, first):
        layers = [{first: 0}]
        for _ in rows:
            layer = {}
            for cell, cost in layers[-1].items():
                for behind, weight in weights[cell]:
                    layer[behind] = min(layer.get(behind, 10 ** 9), cost + weight)
            layers.append(layer)
        many = len(rows)
        return min(max(Fraction(layers[many][cell] - layers[at][cell], many - at) for at in range(many) if cell in layers[at])
                   for cell in layers[many])

    def test_great_graphs(self):
        for seed, many in product(range(3), (400, 3000)):
            chance = Chance(seed).random
            nexts = [[chance.randrange(many), (row + 1) % many, max(row - 1, 0)] for row in range(many)]
            weights = [[chance.randrange(2) for _ in range(3)] for _ in range(many)]
            found = fraction(Valley(weights, nexts).least_mean())
            self.assertTrue(self.is_least(weights, nexts, found))

    def is_least(self, weights, nexts, mean):
        """Tell whether no round is below a mean, and some round that costs no more is at it: by values of all rows."""
        values = [Fraction(0)] * len(nexts)
        for _ in range(len(nexts) + 1):
            better = [min(values[row], min(values[led] + weight - mean for led, weight in zip(nexts[row], weights[row]))) for row in range(len(nexts))]
            if better == values:
                break
            values = better
        else:
            return False
        tight = {row: [led for led, weight in zip(nexts[row], weights[row]) if values[row] == values[led] + weight - mean] for row in range(len(nexts))}
        alive = set(tight)
        while any(not set(tight[row]) & alive for row in alive):
            alive = {row for row in alive if set(tight[row]) & alive}
        return bool(alive)


class Refused(Checks):
    def test_starts_and_states(self):
        for value in ODD_VALUES:
            for call in (cheapest_to, longest_without):
                more = (None, None) if call is cheapest_to else (None,)
                self.refuses(InvalidProgram, {"value": value}, call, value, None, *more)
                self.refuses(InvalidStarts, {"position": 1}, call, MUTE, STARTS + [value], *more)
                if value != [1]:
                    self.refuses(InvalidStarts, {"position": None}, call, MUTE, value, *more)
            self.refuses(InvalidProgram, {"value": value}, shares, value, None, None)
            self.refuses(InvalidState, {"value": value}, shares, MUTE, value, None)

    def test_answers(self):
        for value in NO_NAMES:
            self.refuses(InvalidName, {"value": value}, cheapest_to, MUTE, STARTS, value, None)
            self.refuses(InvalidName, {"value": value}, shares, MUTE, STARTS[0], value)
            self.refuses(InvalidBad, {"position": 1}, longest_without, MUTE, STARTS, ["open", value, None])
            if not isinstance(value, (list, tuple)):
                self.refuses(InvalidBad, {"position": None}, longest_without, MUTE, STARTS, value)
        self.refuses(InvalidBad, {"position": None}, longest_without, MUTE, STARTS, "mute")

    def test_limits(self):
        starts = [("on", {"x": 0})]
        for program, limit in ((counter(601), {"kind": "cuts", "limit": 600}), (grid_of(50, 61), {"kind": "cells", "limit": 3000})):
            many = [("on", {level: 0 for level in program.levels()})]
            prices = {letter: 1 for letter in program.letters()}
            self.refuses(TooMany, limit, cheapest_to, program, many, "yes", prices)
            self.refuses(InvalidPrices, {"value": {}}, cheapest_to, program, many, "yes", {})
            self.refuses(TooMany, limit, longest_without, program, many, ["yes"])
            self.refuses(InvalidBad, {"position": 0}, longest_without, program, many, [None])
            self.refuses(TooMany, limit, shares, program, many[0], "yes")
            self.refuses(InvalidName, {"value": None}, shares, program, many[0], None)
        few = counter(600)
        self.same(cheapest_to(few, starts, "yes", {"ask": 10, "up": 1}), (610, ("on", {"x": Ratio(0)}), ["up"] * 600 + ["ask"]))
        self.same(longest_without(few, starts, ["yes"]), None)
        self.same(shares(few, starts[0], "yes"), (Ratio(0), Ratio(1)))
        few, starts = grid_of(50, 60), [("on", {"x": 0, "y": 0})]
        self.same(cheapest_to(few, starts, "yes", {"ask": 0, "upx": 2, "upy": 1})[0], 49 * 2 + 59)
        self.same(longest_without(few, starts, ["no"]), 0)
        self.same(shares(few, starts[0], "yes"), (Ratio(0), Ratio(1)))


if __name__ == "__main__":
    unittest.main()
