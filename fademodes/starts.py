"""Starts: the states from which a program begins, and the cells that they meet and come to."""

from fademodes.classes import letters_behind
from fademodes.cuts import is_within, mark_of, precedes, ratio_cut
from fademodes.errors import InvalidStarts, TooMany
from fademodes.grids import MOST_CELLS, every_choice, many_choices
from fademodes.kinds import is_list, is_one_of
from fademodes.programs import check_program
from fademodes.ratios import Ratio, is_number


def check_starts(program, starts):
    """Raise the error of a program, or of starts, that are not valid."""
    check_program(program)
    if not is_list(starts) or len(starts) == 0:
        raise InvalidStarts(None)
    for position, start in enumerate(starts):
        if not is_start(program, start):
            raise InvalidStarts(position)


def is_start(program, value):
    """Tell whether any value is a start of the program."""
    if not isinstance(value, tuple) or len(value) != 2:
        return False
    mode, held = value
    if not is_one_of(mode, program.modes()) or not isinstance(held, dict):
        return False
    ranges = program.levels()
    if len(held) != len(ranges) or not all([level in held for level in ranges]):
        return False
    return all([held[level] in ranges[level] or ranges[level].has_stretch(held[level]) for level in ranges])


def is_in_start(state, start):
    """Tell whether a state of the program is one of the states of a start."""
    levels = sorted(start[1])
    rows = list(zip(levels, stretches_of_start(start)))
    return state[0] == start[0] and all([is_within(state[1][level], stretch) for level, stretch in rows])


def stretches_of_start(start):
    """Return the list of the stretches of a start, level by level; a number is a stretch by itself."""
    held = start[1]
    return [_stretch_of(held[level]) for level in sorted(held)]


def _stretch_of(value):
    if is_number(value):
        ratio = Ratio.of(value)
        return (ratio, False), (ratio, True)
    return ratio_cut(value[0]), ratio_cut(value[1])


def cells_of_start(grid, start, limit):
    """Return the sorted list of the cells that a start meets, or None if there are more than the limit."""
    rows = [grid.span(start[0], at, stretch) for at, stretch in enumerate(stretches_of_start(start))]
    if many_choices([len(row) for row in rows]) > limit:
        return None
    return [(start[0], positions) for positions in every_choice(rows)]


def cells_of_starts(grid, starts):
    """Return the sorted list of the cells that starts meet."""
    met = {}
    for start in starts:
        found = cells_of_start(grid, start, MOST_CELLS)
        for cell in found or []:
            met[cell] = True
        if found is None or len(met) > MOST_CELLS:
            raise TooMany("cells", MOST_CELLS)
    return sorted(met)


def part_in_cell(grid, start, cell):
    """Return the list of the stretches of that part of a start that lies in a cell, level by level."""
    found = []
    for one, other in zip(stretches_of_start(start), grid.stretches(cell)):
        found.append((_later(one[0], other[0]), _earlier(one[1], other[1])))
    return found


def _later(one, other):
    return other if precedes(one, other) else one


def _earlier(one, other):
    return one if precedes(one, other) else other


def state_in_part(start, part):
    """Return a state of a start, with the marks of these stretches of its part."""
    marks = [mark_of(stretch) for stretch in part]
    return start[0], dict(zip(sorted(start[1]), marks))


def met_state(grid, starts, cell):
    """Return a state of the starts in a cell that they meet."""
    for start in starts:
        if start[0] == cell[0]:
            part = part_in_cell(grid, start, cell)
            if all([precedes(stretch[0], stretch[1]) for stretch in part]):
                return state_in_part(start, part)


class Reach:
    """The cells that are come to from given ones, in sequence, numbered from 0."""

    def __init__(self, grid, met):
        self.found = list(met)
        self.numbers = {cell: number for number, cell in enumerate(self.found)}
        self._came = [None] * len(self.found)
        self._letters = grid.program.letters()
        self._go_on(grid)

    def _go_on(self, grid):
        at = 0
        while at < len(self.found):
            turns = grid.turns(self.found[at])
            for letter, turn in enumerate(turns):
                self._add(turn[0], (at, letter))
            at += 1

    def _add(self, cell, came):
        """Add a cell if it is new."""
        if cell in self.numbers:
            return
        self.numbers[cell] = len(self.found)
        self.found.append(cell)
        self._came.append(came)
        if len(self.found) > MOST_CELLS:
            raise TooMany("cells", MOST_CELLS)

    def met(self):
        """Return the list of the cells that are met, which come first."""
        return [cell for cell, came in zip(self.found, self._came) if came is None]

    def came(self, number):
        """Return the number of the cell ahead and the position of the letter, or None for a cell that is met."""
        return self._came[number]

    def first_met(self, number):
        """Return the number of the cell that is met from which this one is come to."""
        here = number
        while self._came[here] is not None:
            here = self._came[here][0]
        return here

    def history(self, number):
        """Return the history by which a cell is come to."""
        return [self._letters[letter] for letter in letters_behind(self._came, number)]


def reach_of(grid, starts):
    """Return the Reach of all cells that are come to from starts."""
    return Reach(grid, cells_of_starts(grid, starts))
