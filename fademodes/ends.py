"""Ends: how far a level gets in the states that are come to, and tables that show it."""

from fademodes.climbs import Climb, Field, check_ends
from fademodes.cuts import is_cut, ratio_cut
from fademodes.errors import UnknownMode
from fademodes.grids import Grid
from fademodes.kinds import is_one_of
from fademodes.needed import is_closed, needed_cuts
from fademodes.sides import end_of_stretch, farther, image, is_beyond
from fademodes.starts import cells_of_start, part_in_cell


def ends(program, starts, level, side):
    """Return the dict from the cells that are come to to the ends of a level there."""
    check_ends(program, starts, level, side)
    return _found_ends(program, starts, level, side)


def end_of(program, starts, level, side, mode=None):
    """Return the end of a level in a mode, or in all modes together; None if the mode is not come to."""
    check_ends(program, starts, level, side)
    if mode is not None and not is_one_of(mode, program.modes()):
        raise UnknownMode(mode)
    found = _found_ends(program, starts, level, side)
    last = None
    for cell in found:
        if mode is None or cell[0] == mode:
            last = found[cell] if last is None else farther(side, last, found[cell])
    return last


def bound_table(program, starts, level, side):
    """Return a bound table: the needed cuts with the ends themselves."""
    check_ends(program, starts, level, side)
    return needed_cuts(program), _found_ends(program, starts, level, side)


def is_bound_table(program, starts, level, side, value):
    """Tell whether any value is a bound table for a level and its ends."""
    check_ends(program, starts, level, side)
    if not isinstance(value, tuple) or len(value) != 2:
        return False
    family, table = value
    if not is_closed(program, family) or not isinstance(table, dict):
        return False
    grid = Grid(program, family)
    if not all([grid.has_cell(cell) and is_cut(table[cell]) for cell in table]):
        return False
    at = list(program.levels()).index(level)
    if not all([_bounds_start(grid, start, at, side, table) for start in starts]):
        return False
    return all([_bounds_turns(grid, cell, level, side, table) for cell in table])


def _found_ends(program, starts, level, side):
    field = Field(program, starts, level, side)
    climb = Climb(field)
    return {cell: climb.ends[field.reach.numbers[cell]] for cell in sorted(field.reach.found)}


def _bounds_start(grid, start, at, side, table):
    """Tell whether a table has all cells that a start meets, and its ends there are not beyond the cuts."""
    met = cells_of_start(grid, start, len(table))
    if met is None or not all([cell in table for cell in met]):
        return False
    found = [(end_of_stretch(side, part_in_cell(grid, start, cell)[at]), table[cell]) for cell in met]
    return not any([is_beyond(side, end, cut) for end, cut in found])


def _bounds_turns(grid, cell, level, side, table):
    """Tell whether what letters make of the cut of a cell is not beyond the cuts of the cells behind."""
    cut = ratio_cut(table[cell])
    for led, _, place in grid.turns(cell):
        if led not in table:
            return False
        if is_beyond(side, image(side, grid.program.move_of(place, level), cut), table[led]):
            return False
    return True
