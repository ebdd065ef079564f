"""Runs: how a state of a program answers a history, letter by letter."""

from fademodes.errors import InvalidHistory, InvalidState, TooMany, UnknownLetter
from fademodes.kinds import is_list, is_one_of
from fademodes.moves import Move
from fademodes.programs import check_program
from fademodes.ratios import Ratio

MOST_LETTERS_RUN = 300


def is_state(program, value):
    """Tell whether any value is a state of the program."""
    check_program(program)
    if not isinstance(value, tuple) or len(value) != 2:
        return False
    mode, numbers = value
    if not is_one_of(mode, program.modes()) or not isinstance(numbers, dict):
        return False
    ranges = program.levels()
    if len(numbers) != len(ranges):
        return False
    return all([level in numbers and numbers[level] in ranges[level] for level in ranges])


def ratio_state(program, state):
    """Return a state with Ratios, its levels sorted."""
    if not is_state(program, state):
        raise InvalidState(state)
    mode, numbers = state
    return mode, {level: Ratio.of(numbers[level]) for level in sorted(numbers)}


def step(program, state, letter):
    """Return the state behind a letter, the answer, and the place of the rule that is taken."""
    here = ratio_state(program, state)
    if not is_one_of(letter, program.letters()):
        raise UnknownLetter(letter)
    return _stepped(program, here, letter)


def run(program, state, history):
    """Yield what step returns for each letter of a history."""
    here = ratio_state(program, state)
    check_history(program, history)
    check_many_letters(len(history))
    for letter in list(history):
        here, answer, place = _stepped(program, here, letter)
        # What is yielded can be changed from outside ahead of the next letter.
        yield (here[0], dict(here[1])), answer, place


def answers_of(program, state, history):
    """Return the list of the answers that a history gets."""
    return [told[1] for told in run(program, state, history)]


def state_behind(program, state, history):
    """Return the last state of a history."""
    last = ratio_state(program, state)
    for told in run(program, state, history):
        last = told[0]
    return last


def moves_behind(program, state, history):
    """Return a dict from the levels to the moves that a history makes in all."""
    check_program(program)
    ranges = program.levels()
    moves = {level: Move.staying(ranges[level]) for level in ranges}
    for told in run(program, state, history):
        moves = {level: moves[level].then(program.move_of(told[2], level)) for level in ranges}
    return moves


def is_history(program, value):
    """Tell whether any value is a history, of any length."""
    letters = program.letters()
    return is_list(value) and all([is_one_of(letter, letters) for letter in value])


def check_history(program, history):
    """Raise InvalidHistory for any value that is no history."""
    if not is_list(history):
        raise InvalidHistory(None)
    letters = program.letters()
    for position, letter in enumerate(history):
        if not is_one_of(letter, letters):
            raise InvalidHistory(position)


def check_many_letters(many):
    """Raise TooMany if numbers are to be led along more letters than the limit."""
    if many > MOST_LETTERS_RUN:
        raise TooMany("letters", MOST_LETTERS_RUN)


def _stepped(program, state, letter):
    """Do a step with a state that is known to have Ratios."""
    mode, numbers = state
    place = _place_taken(program, state, letter)
    rule = program.rule(place)
    moves = rule.moves()
    moved = {level: moves[level].at(numbers[level]) if level in moves else numbers[level] for level in numbers}
    return (rule.goal, moved), rule.answer, place


def _place_taken(program, state, letter):
    """Return the place of the first rule that applies: the last rule always does."""
    mode, numbers = state
    for position, rule in enumerate(program.rules(mode, letter)):
        if rule.applies(numbers):
            return mode, letter, position
