"""Rules, and programs made of them: levels, modes and letters."""

from fademodes.cuts import Range, is_above
from fademodes.errors import InvalidLevels, InvalidModes, InvalidName, InvalidNumber, InvalidPlace, InvalidPosition
from fademodes.errors import InvalidProgram, InvalidRule, InvalidRules, OtherLetters, TooMany
from fademodes.errors import UnknownLetter, UnknownLevel, UnknownMode
from fademodes.kinds import has_names, is_list, is_name, is_one_of, is_position
from fademodes.moves import Move
from fademodes.ratios import Ratio, is_number

SIDES = ("from", "above", "to", "below")
PARTS = ("goal", "answer", "when", "moves")
MOST_LEVELS = 3
MOST_MODES = 40
MOST_LETTERS = 6
MOST_RULES = 64
MOST_CONDITIONS = 8


def condition_cut(condition):
    """Return the cut of a condition."""
    return condition[2], condition[1] in ("above", "to")


def wants_above(condition):
    """Tell whether a condition is true above its cut; if not, it is true below."""
    return condition[1] in ("from", "above")


class Rule:
    """A goal and an answer, the conditions under which they are taken, and moves of levels."""

    def __init__(self, goal, answer, *, when=(), moves=None):
        for name in (goal, answer):
            if not is_name(name):
                raise InvalidName(name)
        _check_when(when)
        _check_moves(moves)
        if len(when) > MOST_CONDITIONS:
            raise TooMany("conditions", MOST_CONDITIONS)
        self._goal = goal
        self._answer = answer
        self._when = tuple([(level, side, Ratio.of(number)) for level, side, number in when])
        self._moves = {level: moves[level] for level in sorted(moves)} if moves else {}

    @property
    def goal(self):
        """The next mode."""
        return self._goal

    @property
    def answer(self):
        """The name that is answered."""
        return self._answer

    def when(self):
        """Return the tuple of the conditions."""
        return self._when

    def moves(self):
        """Return the dict from levels to their moves."""
        return dict(self._moves)

    def applies(self, levels):
        """Tell whether all conditions are true at these numbers of the levels."""
        for condition in self._when:
            if condition[0] not in levels:
                raise UnknownLevel(condition[0])
        return all([is_above(levels[row[0]], condition_cut(row)) == wants_above(row) for row in self._when])

    def changed(self, **parts):
        """Return a rule with other parts."""
        for name in sorted(parts):
            if name not in PARTS:
                raise InvalidName(name)
        goal, answer = parts.get("goal", self._goal), parts.get("answer", self._answer)
        return Rule(goal, answer, when=parts.get("when", self._when), moves=parts.get("moves", self._moves))

    def __eq__(self, other):
        if not isinstance(other, Rule):
            return False
        if self._goal != other._goal or self._answer != other._answer:
            return False
        return self._when == other._when and self._moves == other._moves


def _check_when(when):
    if not is_list(when):
        raise InvalidRule("when", None)
    for position, value in enumerate(when):
        if not _is_condition(value):
            raise InvalidRule("when", position)


def _is_condition(value):
    if not isinstance(value, tuple) or len(value) != 3:
        return False
    return is_name(value[0]) and is_one_of(value[1], SIDES) and is_number(value[2])


def _check_moves(moves):
    if moves is None:
        return
    if not has_names(moves):
        raise InvalidRule("moves", None)
    for level in sorted(moves):
        if not isinstance(moves[level], Move):
            raise InvalidRule("moves", level)


class Program:
    """Levels with their ranges, and for each mode and each letter a list of rules."""

    def __init__(self, levels, rules):
        _check_levels(levels)
        _check_modes(rules)
        for mode in sorted(rules):
            for letter in sorted(rules[mode]):
                _check_rules(levels, rules, mode, letter)
        _check_sizes(rules)
        self._levels = {level: levels[level] for level in sorted(levels)}
        self._rules = {}
        for mode in sorted(rules):
            self._rules[mode] = {letter: tuple(rules[mode][letter]) for letter in sorted(rules[mode])}
        self._kept = {}

    def keep(self, name, found):
        """Keep what was worked out about this program, so that it is worked out once."""
        self._kept[name] = found

    def kept(self, name):
        """Return what is kept under a name, or None."""
        return self._kept.get(name)

    def levels(self):
        """Return the dict from the levels to their ranges."""
        return dict(self._levels)

    def modes(self):
        """Return the sorted list of the modes."""
        return list(self._rules)

    def letters(self):
        """Return the sorted list of the letters."""
        return list(self._rules[self.modes()[0]])

    def answers(self):
        """Return the sorted list of the answers of all rules."""
        return sorted({self.rule(place).answer for place in self.places()})

    def rules(self, mode, letter):
        """Return the list of the rules of a mode for a letter."""
        self._check_mode_letter(mode, letter)
        return list(self._rules[mode][letter])

    def places(self):
        """Yield the places of all rules, sorted."""
        for mode in self.modes():
            for letter in self.letters():
                for position in range(len(self._rules[mode][letter])):
                    yield mode, letter, position

    def rule(self, place):
        """Return the rule at a place."""
        if not self.has_place(place):
            raise InvalidPlace(place)
        mode, letter, position = place
        return self._rules[mode][letter][position]

    def move_of(self, place, level):
        """Return the move that the rule at a place makes of a level."""
        rule = self.rule(place)
        if not is_one_of(level, self._levels):
            raise UnknownLevel(level)
        move = rule.moves().get(level)
        return Move.staying(self._levels[level]) if move is None else move

    def with_rules(self, mode, letter, rules):
        """Return the program with this list of rules instead."""
        self._check_mode_letter(mode, letter)
        table = self._table()
        table[mode][letter] = rules
        return Program(self._levels, table)

    def with_number(self, place, position, number):
        """Return the program with this number in a condition instead."""
        when = self._conditions_to_change(place, position)
        if not is_number(number):
            raise InvalidNumber(number)
        level, side, _ = when[position]
        when[position] = (level, side, number)
        return self._with_conditions(place, when)

    def without_rule(self, place):
        """Return the program without the rule at a place."""
        self.rule(place)
        mode, letter, position = place
        rules = self.rules(mode, letter)
        del rules[position]
        return self.with_rules(mode, letter, rules)

    def without_condition(self, place, position):
        """Return the program without a condition of the rule at a place."""
        when = self._conditions_to_change(place, position)
        del when[position]
        return self._with_conditions(place, when)

    def without_level(self, level):
        """Return the program without a level, its conditions and its moves."""
        if not is_one_of(level, self._levels):
            raise UnknownLevel(level)
        levels = {name: self._levels[name] for name in self._levels if name != level}
        table = self._table()
        for mode in self.modes():
            for letter in self.letters():
                table[mode][letter] = [_without_level(rule, level) for rule in self._rules[mode][letter]]
        return Program(levels, table)

    def _table(self):
        """Return a copy of all rules, as the class takes them."""
        return {mode: dict(self._rules[mode]) for mode in self._rules}

    def _check_mode_letter(self, mode, letter):
        if not is_one_of(mode, self._rules):
            raise UnknownMode(mode)
        if not is_one_of(letter, self._rules[mode]):
            raise UnknownLetter(letter)

    def has_place(self, value):
        """Tell whether any value is the place of a rule."""
        if not isinstance(value, tuple) or len(value) != 3:
            return False
        mode, letter, position = value
        if not is_one_of(mode, self._rules) or not is_one_of(letter, self._rules[mode]):
            return False
        return is_position(position, len(self._rules[mode][letter]))

    def _conditions_to_change(self, place, position):
        """Return the conditions of the rule at a place as a new list that has this position."""
        when = list(self.rule(place).when())
        if not is_position(position, len(when)):
            raise InvalidPosition(position)
        return when

    def _with_conditions(self, place, when):
        mode, letter, position = place
        rules = self.rules(mode, letter)
        rules[position] = rules[position].changed(when=when)
        return self.with_rules(mode, letter, rules)

    def __eq__(self, other):
        return isinstance(other, Program) and self._levels == other._levels and self._rules == other._rules

    def __repr__(self):
        return f"Program({self.modes()!r}, {self.letters()!r}, {list(self._levels)!r})"


def _without_level(rule, level):
    moves = rule.moves()
    when = [condition for condition in rule.when() if condition[0] != level]
    return rule.changed(when=when, moves={name: moves[name] for name in moves if name != level})


def _check_levels(levels):
    if not has_names(levels) or len(levels) > MOST_LEVELS:
        raise InvalidLevels(None)
    for level in sorted(levels):
        if not isinstance(levels[level], Range):
            raise InvalidLevels(level)


def _check_modes(rules):
    if not _is_table(rules):
        raise InvalidModes(None)
    letters = None
    for mode in sorted(rules):
        if not _is_table(rules[mode]):
            raise InvalidModes(mode)
        if letters is None:
            letters = sorted(rules[mode])
        if sorted(rules[mode]) != letters:
            raise InvalidModes(mode)


def _is_table(value):
    return has_names(value) and len(value) > 0


def _check_rules(levels, rules, mode, letter):
    found = rules[mode][letter]
    if not is_list(found) or len(found) == 0:
        raise InvalidRules(mode, letter, None)
    for position, rule in enumerate(found):
        if not isinstance(rule, Rule) or rule.goal not in rules or not has_levels_for(levels, rule):
            raise InvalidRules(mode, letter, position)
    if len(found[-1].when()) > 0:
        raise InvalidRules(mode, letter, len(found) - 1)


def has_levels_for(levels, rule):
    """Tell whether there are all levels that a rule names, and its moves stay within their ranges."""
    moves = rule.moves()
    named = [condition[0] for condition in rule.when()] + list(moves)
    if not all([level in levels for level in named]):
        return False
    return all([moves[level].low in levels[level] and moves[level].high in levels[level] for level in moves])


def _check_sizes(rules):
    if len(rules) > MOST_MODES:
        raise TooMany("modes", MOST_MODES)
    for mode in rules:
        if len(rules[mode]) > MOST_LETTERS:
            raise TooMany("letters", MOST_LETTERS)
        if max([len(rules[mode][letter]) for letter in rules[mode]]) > MOST_RULES:
            raise TooMany("rules", MOST_RULES)


def check_program(value):
    """Raise InvalidProgram for any value that is no Program."""
    if not isinstance(value, Program):
        raise InvalidProgram(value)


def check_same_letters(one, other):
    """Raise OtherLetters with the first letter that only one of two programs has."""
    letters, other_letters = one.letters(), other.letters()
    for letter in sorted(letters + other_letters):
        if letter not in letters or letter not in other_letters:
            raise OtherLetters(letter)
