"""Alike states: whether all histories get the same answers from both, and what shows it."""

from fademodes.classes import letters_behind
from fademodes.errors import TooMany
from fademodes.grids import Grid, needed_grid
from fademodes.kinds import is_list
from fademodes.needed import is_closed, needed_cuts
from fademodes.programs import check_same_letters
from fademodes.runs import ratio_state

MOST_PAIRS = 20000


def are_alike(one, state, other, other_state):
    """Tell whether all histories get the same answers from both states."""
    return parting(one, state, other, other_state) is None


def parting(one, state, other, other_state):
    """Return the first of the shortest histories that part two states, or None."""
    here, there = _checked_states(one, state, other, other_state)
    grid, other_grid = needed_grid(one), needed_grid(other)
    _, found = _walk(grid, other_grid, (grid.cell_at(here), other_grid.cell_at(there)))
    letters = one.letters()
    return None if found is None else [letters[letter] for letter in found]


def alike_paper(one, state, other, other_state):
    """Return a certificate that two states are alike, or None if they are not."""
    here, there = _checked_states(one, state, other, other_state)
    grid, other_grid = needed_grid(one), needed_grid(other)
    pairs, found = _walk(grid, other_grid, (grid.cell_at(here), other_grid.cell_at(there)))
    if found is not None:
        return None
    return needed_cuts(one), needed_cuts(other), pairs


def is_alike_paper(one, state, other, other_state, value):
    """Tell whether any value is a certificate that two states are alike."""
    here, there = _checked_states(one, state, other, other_state)
    if not isinstance(value, tuple) or len(value) != 3:
        return False
    family, other_family, pairs = value
    if not is_closed(one, family) or not is_closed(other, other_family) or not is_list(pairs):
        return False
    grid, other_grid = Grid(one, family), Grid(other, other_family)
    if not all([_is_pair(grid, other_grid, pair) for pair in pairs]):
        return False
    there_are = {pair: True for pair in pairs}
    if (grid.cell_at(here), other_grid.cell_at(there)) not in there_are:
        return False
    return all([_holds(grid, other_grid, pair, there_are) for pair in pairs])


def _checked_states(one, state, other, other_state):
    here = ratio_state(one, state)
    there = ratio_state(other, other_state)
    check_same_letters(one, other)
    return here, there


def _walk(grid, other_grid, pair):
    """Return the list of all pairs to which histories lead, and the letters of the first that parts, or None.

    Pairs come in the sequence of the histories that lead to them, so the first one with a
    letter that is answered otherwise gives the first of the shortest histories.
    """
    pairs, came = [pair], [None]
    numbers = {pair: 0}
    found = None
    at = 0
    while at < len(pairs):
        turns, other_turns = grid.turns(pairs[at][0]), other_grid.turns(pairs[at][1])
        for letter, (turn, other_turn) in enumerate(zip(turns, other_turns)):
            if turn[1] != other_turn[1] and found is None:
                found = letters_behind(came, at) + [letter]
            led = turn[0], other_turn[0]
            if led not in numbers:
                numbers[led] = len(pairs)
                pairs.append(led)
                came.append((at, letter))
                if len(pairs) > MOST_PAIRS:
                    raise TooMany("pairs", MOST_PAIRS)
        at += 1
    return pairs, found


def _is_pair(grid, other_grid, value):
    if not isinstance(value, tuple) or len(value) != 2:
        return False
    return grid.has_cell(value[0]) and other_grid.has_cell(value[1])


def _holds(grid, other_grid, pair, there_are):
    """Tell whether each letter gets equal answers in a pair, and leads to a pair that is there."""
    for turn, other_turn in zip(grid.turns(pair[0]), other_grid.turns(pair[1])):
        if turn[1] != other_turn[1] or (turn[0], other_turn[0]) not in there_are:
            return False
    return True
