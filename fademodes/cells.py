"""Cells: the sets of states that needed cuts, or other closed families of cuts, do not part."""

from fademodes.errors import InvalidCell, InvalidPaper, UnknownLetter, UnknownMode
from fademodes.grids import Grid, needed_grid
from fademodes.kinds import is_one_of
from fademodes.needed import is_closed
from fademodes.programs import check_program
from fademodes.runs import ratio_state
from fademodes.starts import cells_of_starts, check_starts, reach_of


def cell_of(program, state):
    """Return the cell in which a state lies."""
    here = ratio_state(program, state)
    return needed_grid(program).cell_at(here)


def cells(program, mode=None):
    """Yield all cells, sorted, or those of a mode."""
    check_program(program)
    if mode is not None and not is_one_of(mode, program.modes()):
        raise UnknownMode(mode)
    modes = program.modes() if mode is None else [mode]
    found = needed_grid(program).all_cells(modes)
    yield from found


def is_cell(program, value):
    """Tell whether any value is a cell of the program."""
    check_program(program)
    return needed_grid(program).has_cell(value)


def stretches_of(program, cell):
    """Return the tuple of the stretches of a cell, level by level."""
    return _grid_with(program, cell).stretches(cell)


def cell_step(program, cell, letter):
    """Return the cell behind a letter, the answer, and the place of the rule that is taken."""
    grid = _grid_with(program, cell)
    letters = program.letters()
    if not is_one_of(letter, letters):
        raise UnknownLetter(letter)
    return grid.turns(cell)[letters.index(letter)]


def state_in(program, cell):
    """Return the state with the marks of the stretches of a cell."""
    return _grid_with(program, cell).state(cell)


def cell_in(program, family, state):
    """Return the cell of a closed family in which a state lies."""
    grid = _family_grid(program, family)
    return grid.cell_at(ratio_state(program, state))


def stretches_in(program, family, cell):
    """Return the tuple of the stretches of a cell of a closed family."""
    grid = _family_grid(program, family)
    if not grid.has_cell(cell):
        raise InvalidCell(cell)
    return grid.stretches(cell)


def cells_met(program, starts):
    """Return the sorted list of the cells that starts meet."""
    check_starts(program, starts)
    return cells_of_starts(needed_grid(program), starts)


def come_to(program, starts):
    """Yield tuples (cell, history) of all cells that are come to, in the sequence in which they are."""
    check_starts(program, starts)
    reach = reach_of(needed_grid(program), starts)
    for number, cell in enumerate(reach.found):
        yield cell, reach.history(number)


def _grid_with(program, cell):
    """Return the grid of the needed cuts, of which this must be a cell."""
    check_program(program)
    grid = needed_grid(program)
    if not grid.has_cell(cell):
        raise InvalidCell(cell)
    return grid


def _family_grid(program, family):
    if not is_closed(program, family):
        raise InvalidPaper(family)
    return Grid(program, family)
