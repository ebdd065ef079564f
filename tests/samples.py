"""Programs for several tests, and plain reckoning with Fractions that the package is compared with."""

import random
from fractions import Fraction

from examples import fraction, ratio
from fademodes.cuts import Range
from fademodes.moves import Move
from fademodes.programs import Program, Rule
from fademodes.ratios import Ratio

TRUTHS = {"from": lambda x, c: x >= c, "above": lambda x, c: x > c, "to": lambda x, c: x <= c, "below": lambda x, c: x < c}


def two_levels():
    """Return a program with two modes, two letters and two levels, with unlike divisors."""
    x, y = Range(0, 10), Range(-2, Ratio(7, 2))
    on = {"beat": [Rule("off", "yes", when=[("x", "above", 3), ("y", "to", 1)], moves={"y": Move(3, 1, -2, 3)}),
                   Rule("on", "no", when=[("y", "below", Ratio(-3, 2))], moves={"x": Move.adding(2, x)}),
                   Rule("on", "no", moves={"x": Move(2, 3, 0, 10), "y": Move.adding(1, y)})],
          "rest": [Rule("on", "yes", when=[("x", "from", 10)], moves={"x": Move.setting(1)}),
                   Rule("off", "no", moves={"y": Move.dividing(2, y)})]}
    off = {"beat": [Rule("on", "no", moves={"x": Move.dividing(3, x)})],
           "rest": [Rule("off", "yes", when=[("y", "above", 2)], moves={"y": Move.adding(-1, y)}), Rule("on", "no")]}
    return Program({"y": y, "x": x}, {"on": on, "off": off})


def lights():
    """Return a program without levels: three modes of which two are alike."""
    return Program({}, {"red": {"go": [Rule("green", "stop")], "halt": [Rule("red", "stop")]},
                        "green": {"go": [Rule("amber", "walk")], "halt": [Rule("red", "stop")]},
                        "amber": {"go": [Rule("green", "walk")], "halt": [Rule("red", "stop")]}})


def counter(many, more=1):
    """Return a program with one mode that counts up to a number, and tells whether it is there."""
    held = Range(0, many)
    ask = [Rule("on", "yes", when=[("x", "from", many)]), Rule("on", "no")]
    return Program({"x": held}, {"on": {"ask": ask, "up": [Rule("on", "no", moves={"x": Move.adding(more, held)})]}})


def grid_of(*sizes):
    """Return a program with one mode and levels with so many cells each, all of them needed."""
    names = "xyz"[:len(sizes)]
    levels = {name: Range(0, size - 1) for name, size in zip(names, sizes)}
    rules = {"ask": [Rule("on", "yes", when=[(name, "from", levels[name].high) for name in names]), Rule("on", "no")]}
    for name in names:
        rules["up" + name] = [Rule("on", "no", moves={name: Move.adding(1, levels[name])})]
    return Program(levels, {"on": rules})


class Chance:
    """Small programs, states and starts that are the same each time."""

    def __init__(self, seed):
        self.random = random.Random(seed)

    def number(self, low, high):
        bottom = self.random.choice((1, 1, 2, 3))
        return Ratio(self.random.randint(low * bottom, high * bottom), bottom)

    def program(self, many_levels):
        levels = {name: Range(self.random.choice((0, -2)), self.random.choice((5, Ratio(15, 2)))) for name in "xyz"[:many_levels]}
        modes, letters = ["m", "n", "o"][:self.random.randint(1, 3)], ["p", "q"]
        rules = {mode: {letter: self.rules(levels, modes) for letter in letters} for mode in modes}
        return Program(levels, rules)

    def rules(self, levels, modes):
        found = []
        for left in reversed(range(self.random.randint(1, 3))):
            when = []
            if left and levels:
                names = self.random.choices(sorted(levels), k=self.random.randint(0, 2))
                when = [(name, self.random.choice(("from", "above", "to", "below")), self.number(-3, 8)) for name in names]
            moves = {name: self.move(levels[name]) for name in levels if self.random.random() < 0.7}
            found.append(Rule(self.random.choice(modes), self.random.choice("uv"), when=when, moves=moves))
        return found

    def move(self, held):
        low, high = held.low, held.high
        if self.random.random() < 0.2:
            high = Ratio(self.random.randint(0, 4))
        return Move(self.random.choice((1, 1, 2, 3)), self.number(-4, 6), low, high)

    def inside(self, held):
        low, high = fraction(held.low), fraction(held.high)
        parts = self.random.choice((1, 2, 5, 7))
        return ratio(low + (high - low) * Fraction(self.random.randint(0, parts), parts))

    def state(self, program):
        levels = program.levels()
        return self.random.choice(program.modes()), {level: self.inside(levels[level]) for level in levels}

    def start(self, program):
        mode, numbers = self.state(program)
        levels = program.levels()
        for level in levels:
            stretch = tuple([(self.inside(levels[level]), self.random.random() < 0.5) for _ in range(2)])
            if levels[level].has_stretch(stretch) and self.random.random() < 0.5:
                numbers[level] = stretch
        return mode, numbers


def plain_step(program, state, letter):
    """Return (state, answer, place) as points 9 to 12 say it, with Fractions."""
    mode, numbers = state
    for position, rule in enumerate(program.rules(mode, letter)):
        if all(TRUTHS[side](numbers[level], fraction(number)) for level, side, number in rule.when()):
            moved = dict(numbers)
            for level, move in rule.moves().items():
                moved[level] = plain_move(move, numbers[level])
            return (rule.goal, moved), rule.answer, (mode, letter, position)


def plain_move(move, number):
    free = (number + fraction(move.plus)) / move.divisor
    return min(max(free, fraction(move.low)), fraction(move.high))


def plain_state(state):
    return state[0], {level: fraction(Ratio.of(number)) for level, number in state[1].items()}


def ratio_state(state):
    return state[0], {level: ratio(number) for level, number in state[1].items()}


def plain_cut(cut):
    """Return a cut as a tuple that is sorted as cuts are."""
    return fraction(Ratio.of(cut[0])), cut[1]


def plain_outer(held):
    return (fraction(held.low), False), (fraction(held.high), True)


def is_over(number, cut):
    return number > cut[0] if cut[1] else number >= cut[0]


def plain_back(move, cut, held):
    """Return where a cut is led back to, or None if that is not inner."""
    first, second = plain_outer(held)
    if is_over(plain_move(move, first[0]), cut) or not is_over(plain_move(move, second[0]), cut):
        return None
    led = cut[0] * move.divisor - fraction(move.plus), cut[1]
    return led if first < led < second else None


def plain_needed(program):
    """Return the needed cuts, as point 14 says it, as a dict from (mode, level) to sorted lists."""
    levels = program.levels()
    found = {(mode, level): set() for mode in program.modes() for level in levels}
    for place in program.places():
        for level, side, number in program.rule(place).when():
            cut = fraction(number), side in ("above", "to")
            if plain_outer(levels[level])[0] < cut < plain_outer(levels[level])[1]:
                found[place[0], level].add(cut)
    many = -1
    while many != sum(len(cuts) for cuts in found.values()):
        many = sum(len(cuts) for cuts in found.values())
        for place in list(program.places()):
            for level in levels:
                cuts = list(found[program.rule(place).goal, level])
                led = [plain_back(program.move_of(place, level), cut, levels[level]) for cut in cuts]
                found[place[0], level].update(cut for cut in led if cut is not None)
    return {key: sorted(found[key]) for key in found}


def plain_family(family):
    """Return a family as plain_needed gives it."""
    return {(mode, level): [plain_cut(cut) for cut in family[mode][level]] for mode in family for level in family[mode]}


def plain_cell(program, needed, state):
    """Return the cell of a state with Fractions, as point 16 says it."""
    mode, numbers = state
    return mode, tuple([sum(is_over(numbers[level], cut) for cut in needed[mode, level]) for level in program.levels()])



MIRRORED_SIDES = {"from": "to", "above": "below", "to": "from", "below": "above"}


def mirrored(program):
    """Return the program in which all numbers have the other sign."""
    levels = {level: Range(-held.high, -held.low) for level, held in program.levels().items()}
    rules = {mode: {letter: [mirrored_rule(rule) for rule in program.rules(mode, letter)] for letter in program.letters()}
             for mode in program.modes()}
    return Program(levels, rules)


def mirrored_rule(rule):
    when = [(level, MIRRORED_SIDES[side], -number) for level, side, number in rule.when()]
    moves = {level: Move(move.divisor, -move.plus, -move.high, -move.low) for level, move in rule.moves().items()}
    return rule.changed(when=when, moves=moves)


def mirrored_cut(cut):
    return -Ratio.of(cut[0]), not cut[1]


def mirrored_start(start):
    found = {}
    for level, value in start[1].items():
        found[level] = (mirrored_cut(value[1]), mirrored_cut(value[0])) if isinstance(value, tuple) else -Ratio.of(value)
    return start[0], found


def plain_stretch(value):
    """Return the stretch of a number or a stretch, as two plain cuts."""
    if isinstance(value, tuple):
        return plain_cut(value[0]), plain_cut(value[1])
    return (fraction(Ratio.of(value)), False), (fraction(Ratio.of(value)), True)


def plain_part(program, needed, start, cell):
    """Return that part of a start that lies in a cell, as a dict from the levels to stretches; None if there is none."""
    found = {}
    for level, position in zip(program.levels(), cell[1]):
        first, second = plain_outer(program.levels()[level])
        cuts = [first] + needed[cell[0], level] + [second]
        low, high = plain_stretch(start[1][level])
        low, high = max(low, cuts[position]), min(high, cuts[position + 1])
        if start[0] != cell[0] or low >= high:
            return None
        found[level] = low, high
    return found


TINY = Fraction(1, 10 ** 12)


def plain_image(move, end, side):
    """Return what a move makes of an end, by the words of point 10."""
    number, is_over_it = end
    result = plain_move(move, number)
    is_met = is_over_it == (side == "upper")
    near = number - TINY if side == "upper" else number + TINY
    is_met = is_met or plain_move(move, near) == result
    return result, is_met == (side == "upper")


def number_near(stretch, side):
    """Return a number of a stretch at its upper (lower) end, or very near to it if the end is not met."""
    low, high = stretch
    width = high[0] - low[0]
    if side == "upper":
        return high[0] if high[1] else high[0] - width * TINY
    return low[0] + width * TINY if low[1] else low[0]
