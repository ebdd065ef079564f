"""Texts of numbers, cuts, states and programs, and how they are read."""

from fademodes.cuts import ratio_cut
from fademodes.errors import FadeError, InvalidText
from fademodes.lines import first_wrong, number_in, program_in, said_in
from fademodes.programs import check_program
from fademodes.ratios import Ratio
from fademodes.runs import is_state, ratio_state


def number_text(number):
    """Return the text of a number."""
    return str(Ratio.of(number))


def read_number(text):
    """Return the number of a text."""
    _check_string(text)
    number = number_in(text)
    if number is None:
        raise InvalidText(1)
    return number


def cut_text(cut):
    """Return the text of a cut."""
    place, just_above = ratio_cut(cut)
    side = "above" if just_above else "below"
    return f"{side} {place}"


def state_text(program, state):
    """Return the text of a state."""
    mode, numbers = ratio_state(program, state)
    return " ".join([mode, *[f"{level}={numbers[level]}" for level in numbers]])


def read_state(program, text):
    """Return the state of a text."""
    check_program(program)
    _check_string(text)
    words = text.split(" ")
    numbers = {}
    for word in words[1:]:
        level, _, number = word.partition("=")
        numbers[level] = number_in(number)
    # Only the text of the state itself has its levels sorted, each once.
    state = words[0], numbers
    if not is_state(program, state) or state_text(program, state) != text:
        raise InvalidText(1)
    return ratio_state(program, state)


def program_text(program):
    """Return the text of a program."""
    check_program(program)
    ranges = program.levels()
    lines = [f"level {level}: {ranges[level].low} {ranges[level].high}\n" for level in ranges]
    for mode in program.modes():
        lines.append(f"mode {mode}\n")
        for letter in program.letters():
            lines.extend([_rule_line(letter, rule) for rule in program.rules(mode, letter)])
    return "".join(lines)


def _rule_line(letter, rule):
    conditions = [f"{level} {side} {number}" for level, side, number in rule.when()]
    when = " if " + " and ".join(conditions) if conditions else ""
    moves = rule.moves()
    parts = [f"on {letter}{when} go {rule.goal} say {rule.answer}"]
    parts.extend([_move_part(level, moves[level]) for level in moves])
    return "; ".join(parts) + "\n"


def _move_part(level, move):
    return f"{level} by {move.divisor} add {move.plus} in {move.low} {move.high}"


def read_program(text):
    """Return the program of a text."""
    _check_string(text)
    lines = text.split("\n")
    is_ended = len(lines) > 1 and lines[-1] == ""
    if is_ended:
        lines.pop()
    said = [said_in(line) for line in lines]
    wrong = first_wrong(said)
    if wrong is not None:
        raise InvalidText(wrong + 1)
    if not is_ended:
        raise InvalidText(len(lines))
    try:
        return program_in(said)
    except FadeError:
        raise InvalidText(len(lines)) from None


def _check_string(text):
    if not isinstance(text, str):
        raise InvalidText(None)
