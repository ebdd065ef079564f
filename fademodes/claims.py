"""Claims: which values are claims, by their forms."""

from fademodes.cuts import is_cut
from fademodes.kinds import is_integer, is_list, is_name, is_one_of
from fademodes.programs import Program
from fademodes.runs import is_state
from fademodes.sides import ENDS
from fademodes.starts import is_start


def is_count(value):
    """Tell whether any value is a COUNT."""
    return is_integer(value) and value >= 0


def are_starts(program, value):
    """Tell whether any value is a list of starts of a program."""
    return is_list(value) and len(value) > 0 and all([is_start(program, start) for start in value])


def _are_two_states(program, state, other, other_state):
    if not isinstance(other, Program) or program.letters() != other.letters():
        return False
    return is_state(program, state) and is_state(other, other_state)


def _are_end_parts(program, starts, level, side, cut):
    if not are_starts(program, starts) or not is_one_of(level, program.levels()):
        return False
    return is_one_of(side, ENDS) and is_cut(cut)


def _are_cut_parts(program, mode, level, cut):
    return is_one_of(mode, program.modes()) and is_one_of(level, program.levels()) and is_cut(cut)


def _are_safe_parts(program, state, hand, bad):
    if not is_state(program, state) or not is_list(hand) or not is_list(bad):
        return False
    modes = program.modes()
    return all([is_one_of(mode, modes) for mode in hand]) and all([is_name(name) for name in bad])


def _are_forced_parts(program, state, hand, bad, count):
    return _are_safe_parts(program, state, hand, bad) and is_count(count)


def _are_forgotten_parts(program, starts, count):
    return are_starts(program, starts) and is_count(count)


FORMS = {
    "alike": _are_two_states,
    "unlike": _are_two_states,
    "beyond": _are_end_parts,
    "never beyond": _are_end_parts,
    "needed": _are_cut_parts,
    "matters": _are_cut_parts,
    "safe": _are_safe_parts,
    "forced": _are_forced_parts,
    "forgotten": _are_forgotten_parts,
    "remembered": are_starts,
}
PARTS = {
    "alike": 4,
    "unlike": 4,
    "beyond": 5,
    "never beyond": 5,
    "needed": 4,
    "matters": 4,
    "safe": 4,
    "forced": 5,
    "forgotten": 3,
    "remembered": 2,
}


def has_form(value):
    """Tell whether any value is a claim."""
    if not isinstance(value, tuple) or len(value) == 0 or not is_one_of(value[0], list(FORMS)):
        return False
    parts = value[1:]
    if len(parts) != PARTS[value[0]] or not isinstance(parts[0], Program):
        return False
    are_valid = FORMS[value[0]]
    return are_valid(*parts)
