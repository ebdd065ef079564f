"""Lines of the text of a program: what each one says, and the first that is wrong."""

from fademodes.cuts import Range
from fademodes.errors import FadeError
from fademodes.kinds import is_name
from fademodes.moves import Move
from fademodes.programs import Program, Rule, has_levels_for
from fademodes.ratios import Ratio

DIGITS = "0123456789"
MOST_DIGITS = 4000
LEVEL = "level"
MODE = "mode"
RULE = "on"
NOTHING = ("", "", None)


def number_in(text):
    """Return the number of which this is exactly the text, or None."""
    top, line, bottom = text.partition("/")
    if not _is_digits(top.removeprefix("-")) or (line and not _is_digits(bottom)):
        return None
    if bottom.startswith("0"):
        return None
    number = Ratio(int(top), int(bottom)) if line else Ratio(int(top))
    return number if str(number) == text else None


def _is_digits(text):
    return 1 <= len(text) <= MOST_DIGITS and all([sign in DIGITS for sign in text])


def said_in(line):
    """Return what a line says: a tuple (kind, name, what is made of it), or NOTHING if it is wrong by itself."""
    words = line.split(" ")
    if words[0] == LEVEL:
        held = _range_in(words)
        return NOTHING if held is None else (LEVEL, words[1].removesuffix(":"), held)
    if words[0] == MODE:
        return (MODE, words[1], None) if len(words) == 2 and is_name(words[1]) else NOTHING
    rule = _rule_in(line)
    return NOTHING if rule is None else (RULE, words[1], rule)


def _range_in(words):
    """Return the Range of a line of a level, or None."""
    if len(words) != 4 or not words[1].endswith(":") or not is_name(words[1].removesuffix(":")):
        return None
    low, high = number_in(words[2]), number_in(words[3])
    if low is None or high is None or high.is_below(low):
        return None
    return Range(low, high)


def _rule_in(line):
    """Return the Rule of a line of a rule, or None."""
    parts = line.split("; ")
    words = parts[0].split(" ")
    if len(words) < 6 or words[0] != RULE or not is_name(words[1]) or words[-4] != "go" or words[-2] != "say":
        return None
    when, moves = _conditions_in(words[2:-4]), _moves_in(parts[1:])
    if when is None or moves is None:
        return None
    try:
        return Rule(words[-3], words[-1], when=when, moves=moves)
    except FadeError:
        return None


def _conditions_in(words):
    """Return the list of the conditions in words that stand between the letter and the goal, or None.

    What is no level, no side or no number is left to the class Rule, which refuses it.
    """
    if len(words) % 4 != 0:
        return None
    found = []
    for at in range(0, len(words), 4):
        link, level, side, text = words[at:at + 4]
        if link != ("and" if at else "if"):
            return None
        found.append((level, side, number_in(text)))
    return found


def _moves_in(parts):
    """Return the dict of the moves in these parts of a line, or None; the levels must be sorted.

    What is no level or no move is left to the class Rule, which refuses it.
    """
    found = {}
    last = ""
    for part in parts:
        words = part.split(" ")
        if words[0] <= last:
            return None
        last = words[0]
        found[last] = _move_in(words)
    return found


def _move_in(words):
    if len(words) != 8 or (words[1], words[3], words[5]) != ("by", "add", "in"):
        return None
    divisor, plus, low, high = [number_in(words[at]) for at in (2, 4, 6, 7)]
    if divisor is None or divisor.bottom != 1:
        return None
    # A number that could not be read is None, which the class Move refuses.
    try:
        return Move(divisor.top, plus, low, high)
    except FadeError:
        return None


def first_wrong(said):
    """Return the position of the first line that is wrong by itself or beside the others, or None."""
    wrong = [at for at, is_wrong in enumerate(_misplaced(said)) if is_wrong]
    wrong.extend(_wrong_in_sections(said))
    wrong.extend(_wrong_names(said))
    return min(wrong, default=None)


def program_in(said):
    """Return the program of lines of which none is wrong."""
    levels = {name: made for kind, name, made in said if kind == LEVEL}
    rules = {}
    for at, rows in _sections(said):
        table = {}
        for row in rows:
            table.setdefault(said[row][1], []).append(said[row][2])
        rules[said[at][1]] = table
    return Program(levels, rules)


def _misplaced(said):
    """Return for each line whether it is in a wrong place or wrong by itself.

    The empty text, which comes ahead of all names, stands for a name that was not there yet.
    """
    found = []
    level = mode = letter = ""
    for kind, name, _ in said:
        if kind == LEVEL:
            found.append(mode != "" or name <= level)
            level = name
        elif kind == MODE:
            found.append(name <= mode)
            mode, letter = name, ""
        elif kind == RULE:
            found.append(mode == "" or name < letter)
            letter = name
        else:
            found.append(True)
    return found


def _sections(said):
    """Return a list of tuples (position of the line of a mode, positions of its rules)."""
    found = []
    for at, (kind, _, _) in enumerate(said):
        if kind == MODE:
            found.append((at, []))
        if kind == RULE and found:
            found[-1][1].append(at)
    return found


def _wrong_in_sections(said):
    """Return the positions of modes without the right letters, and of last rules with a condition."""
    wrong = []
    letters = None
    for at, rows in _sections(said):
        last = {said[row][1]: row for row in rows}
        if letters is None:
            letters = sorted(last)
        if not rows or sorted(last) != letters:
            wrong.append(at)
        wrong.extend([row for row in last.values() if said[row][2].when()])
    return wrong


def _wrong_names(said):
    """Return the positions of rules with a level or a goal that no line has, or a move that leaves its level."""
    ranges, modes = {}, {}
    for kind, name, made in said:
        if kind == LEVEL:
            ranges.setdefault(name, made)
        if kind == MODE:
            modes[name] = True
    return [at for at, (kind, _, made) in enumerate(said) if kind == RULE and not _is_known(ranges, modes, made)]


def _is_known(ranges, modes, rule):
    return rule.goal in modes and has_levels_for(ranges, rule)
