"""Joins: two programs made into one, side by side or one behind the other."""

from fademodes.errors import InvalidName, NameTaken, TooMany, UnknownLetter
from fademodes.programs import MOST_LEVELS, MOST_MODES, MOST_RULES
from fademodes.programs import Program, Rule, check_program, check_same_letters
from fademodes.ratios import Ratio


def side_by_side(one, other):
    """Return the program in which both programs answer each letter."""
    check_program(one)
    check_program(other)
    check_same_letters(one, other)
    _check_levels_apart(one, other)
    _check_no_points(one.modes() + one.answers() + other.modes() + other.answers())
    return _joined(one, other, _drafts_beside)


def joined_behind(one, other):
    """Return the program in which `one` is handed the answers of `other` as its letters."""
    check_program(one)
    check_program(other)
    _check_answers_taken(one, other)
    _check_levels_apart(one, other)
    _check_no_points(one.modes() + other.modes())
    return _joined(one, other, _drafts_behind)


def joined_state(one_state, other_state):
    """Return the state of a joined program whose programs are in these states."""
    mode, numbers = one_state
    other_mode, other_numbers = other_state
    found = dict(numbers)
    found.update(other_numbers)
    return _joined_name(mode, other_mode), {level: Ratio.of(found[level]) for level in sorted(found)}


def _joined_name(name, other_name):
    return f"{name}.{other_name}"


def _joined(one, other, drafts_of):
    """Return the joined program: the letters are in both joins those of the other one."""
    _check_sizes(one, other)
    table = {}
    for mode in one.modes():
        for other_mode in other.modes():
            drafts = {letter: drafts_of(one, mode, other, other_mode, letter) for letter in other.letters()}
            _check_rule_numbers(drafts)
            table[_joined_name(mode, other_mode)] = drafts
    return _program_of(one, other, table)


def _drafts_beside(one, mode, other, other_mode, letter):
    """Return a list of drafts: tuples (goal, answer, rule, rule), the conditions of the first one ahead."""
    drafts = []
    for rule in one.rules(mode, letter):
        for other_rule in other.rules(other_mode, letter):
            goal = _joined_name(rule.goal, other_rule.goal)
            drafts.append((goal, _joined_name(rule.answer, other_rule.answer), rule, other_rule))
    return drafts


def _drafts_behind(one, mode, other, other_mode, letter):
    drafts = []
    for other_rule in other.rules(other_mode, letter):
        for rule in one.rules(mode, other_rule.answer):
            goal = _joined_name(rule.goal, other_rule.goal)
            drafts.append((goal, rule.answer, other_rule, rule))
    return drafts


def _program_of(one, other, table):
    """Return the program of a dict from modes to dicts from letters to drafts.

    A rule that would have too many conditions is refused by the class Rule.
    """
    levels = one.levels()
    levels.update(other.levels())
    rules = {}
    for mode, drafts in table.items():
        rules[mode] = {letter: [_rule_of(draft) for draft in drafts[letter]] for letter in drafts}
    return Program(levels, rules)


def _rule_of(draft):
    goal, answer, first, second = draft
    moves = first.moves()
    moves.update(second.moves())
    return Rule(goal, answer, when=first.when() + second.when(), moves=moves)


def _check_answers_taken(one, other):
    letters = one.letters()
    for answer in other.answers():
        if answer not in letters:
            raise UnknownLetter(answer)


def _check_levels_apart(one, other):
    other_levels = other.levels()
    for level in one.levels():
        if level in other_levels:
            raise NameTaken(level)


def _check_no_points(names):
    # A joined name would have more than two words.
    for name in names:
        if "." in name:
            raise InvalidName(name)


def _check_sizes(one, other):
    if len(one.levels()) + len(other.levels()) > MOST_LEVELS:
        raise TooMany("levels", MOST_LEVELS)
    if len(one.modes()) * len(other.modes()) > MOST_MODES:
        raise TooMany("modes", MOST_MODES)


def _check_rule_numbers(drafts):
    for letter in drafts:
        if len(drafts[letter]) > MOST_RULES:
            raise TooMany("rules", MOST_RULES)
