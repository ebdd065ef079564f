"""Forgetting: after how many letters it no longer matters from which state one began."""

from fademodes.climbs import check_level
from fademodes.grids import needed_grid
from fademodes.partings import Partings
from fademodes.runs import is_history, is_state, ratio_state
from fademodes.starts import check_starts, is_in_start, met_state


def forgotten_within(program, starts):
    """Return the least number of letters within which the starts are forgotten, or None."""
    check_starts(program, starts)
    partings = Partings(program, starts)
    at = partings.longest_first()
    return 0 if at is None else partings.letters_apart(at)


def remembered(program, starts):
    """Return a tuple (state, state, ahead, round) that shows that the starts are never forgotten, or None."""
    check_starts(program, starts)
    found = remembered_and_parted(program, starts)
    return None if found is None else found[:4]


def remembered_and_parted(program, starts):
    """Return this tuple for valid starts, with a history behind it that parts the cells behind `ahead`, or None."""
    partings = Partings(program, starts)
    at = partings.longest_first()
    if at is None or partings.letters_apart(at) is not None:
        return None
    state, other = _states_of(program, starts, partings.pair_of_cells(at))
    ahead, turn, parted = partings.ways_round(at)
    return state, other, ahead, turn, parted


def is_remembered(program, starts, value):
    """Tell whether any value is a tuple that shows that the starts are never forgotten."""
    check_starts(program, starts)
    partings = Partings(program, starts)
    pair = cells_in_rounds(program, starts, value)
    return pair is not None and partings.are_apart(pair[0], pair[1])


def cells_in_rounds(program, starts, value):
    """Return the two cells to which `ahead` leads and which `round` leads back to themselves.

    None for any value that is no tuple (state, state, ahead, round) of which this is true.
    """
    if not isinstance(value, tuple) or len(value) != 4:
        return None
    ahead, turn = value[2:]
    if not all([_is_among(program, starts, state) for state in value[:2]]):
        return None
    if not is_history(program, ahead) or not is_history(program, turn) or len(turn) == 0:
        return None
    grid = needed_grid(program)
    pair = [grid.behind(grid.cell_at(ratio_state(program, state)), ahead) for state in value[:2]]
    return pair if all([grid.behind(cell, turn) == cell for cell in pair]) else None


def still_apart(program, starts):
    """Return a tuple (state, state, history) of states that are not forgotten one letter ahead of the least number."""
    check_starts(program, starts)
    partings = Partings(program, starts)
    at = partings.longest_first()
    if at is None or not partings.letters_apart(at):
        return None
    state, other = _states_of(program, starts, partings.pair_of_cells(at))
    return state, other, partings.way_apart(at)


def matters_within(program, state, level):
    """Return the least number of letters within which it is forgotten which number a level had, or None."""
    mode, numbers = ratio_state(program, state)
    check_level(program, level)
    numbers[level] = program.levels()[level].outer()
    return forgotten_within(program, [(mode, numbers)])


def _is_among(program, starts, value):
    """Tell whether any value is one of the states of the starts."""
    return is_state(program, value) and any([is_in_start(value, start) for start in starts])


def _states_of(program, starts, pair):
    """Return states of the starts in two cells."""
    return [met_state(needed_grid(program), starts, cell) for cell in pair]
