"""Reaching: papers that lead to ends, and the first histories that pass a cut."""

from fademodes.climbs import Climb, Field, check_ends, composed
from fademodes.cuts import is_cut, ratio_cut
from fademodes.errors import InvalidCell, InvalidCut, InvalidPaper, TooMany
from fademodes.grids import needed_grid
from fademodes.kinds import is_position
from fademodes.passing import first_passing, is_passed
from fademodes.runs import MOST_LETTERS_RUN, is_history, is_state, ratio_state
from fademodes.sides import end_of_stretch, image, limit
from fademodes.starts import is_in_start, part_in_cell


def end_paper(program, starts, level, side, cell):
    """Return a paper that leads to a cell that is come to and its end."""
    check_ends(program, starts, level, side)
    field = Field(program, starts, level, side)
    if not field.grid.has_cell(cell) or cell not in field.reach.numbers:
        raise InvalidCell(cell)
    return Climb(field).paper(field.reach.numbers[cell])


def paper_end(program, starts, level, side, paper):
    """Return the tuple (cell, end) to which a paper leads."""
    check_ends(program, starts, level, side)
    grid = needed_grid(program)
    if not _has_form(program, starts, paper):
        raise InvalidPaper(paper)
    position, state, ahead, turn, behind = paper
    first = grid.cell_at(ratio_state(program, state))
    at = list(program.levels()).index(level)
    end = end_of_stretch(side, part_in_cell(grid, starts[position], first)[at])
    end = _end_behind(side, end, _moves_along(grid, first, level, ahead))
    cell = grid.behind(first, ahead)
    if grid.behind(cell, turn) != cell:
        raise InvalidPaper(paper)
    if len(turn) > 0:
        end = limit(side, composed(_moves_along(grid, cell, level, turn)), end)
    return grid.behind(cell, behind), _end_behind(side, end, _moves_along(grid, cell, level, behind))


def first_beyond(program, starts, level, side, cut):
    """Return a tuple (state, history) of the first of the shortest histories that pass a cut, or None."""
    check_ends(program, starts, level, side)
    if not is_cut(cut):
        raise InvalidCut(cut)
    field = Field(program, starts, level, side)
    wanted = list(range(len(field.ways)))
    if not is_passed(field, ratio_cut(cut), wanted):
        return None
    found = first_passing(field, ratio_cut(cut), wanted, MOST_LETTERS_RUN)
    if found is None:
        raise TooMany("letters", MOST_LETTERS_RUN)
    return found


def _has_form(program, starts, value):
    """Tell whether any value is a tuple (position, state of this start, history, history, history)."""
    if not isinstance(value, tuple) or len(value) != 5 or not is_position(value[0], len(starts)):
        return False
    if not is_state(program, value[1]) or not is_in_start(value[1], starts[value[0]]):
        return False
    return all([is_history(program, history) for history in value[2:]])


def _moves_along(grid, cell, level, history):
    """Return the list of the moves of a level along a history."""
    return [grid.program.move_of(place, level) for _, _, place in grid.path(cell, history)]


def _end_behind(side, end, moves):
    found = end
    for move in moves:
        found = image(side, move, found)
    return found
