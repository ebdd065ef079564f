"""What matters: the cuts at which the behaviour changes, and levels, rules and conditions without effect."""

from fademodes.alike import are_alike
from fademodes.classes import class_numbers, first_parting
from fademodes.cuts import cut_key, ratio_cut
from fademodes.errors import InvalidRules
from fademodes.grids import every_choice, moved_cell, needed_grid
from fademodes.machines import numbered_cells
from fademodes.needed import check_mode_level_cut
from fademodes.programs import check_program
from fademodes.runs import is_history, is_state, ratio_state


class Portrait:
    """All cells of a program, with their classes and what each needed cut parts."""

    def __init__(self, grid):
        self._grid = grid
        self._found = grid.all_cells(grid.program.modes())
        self._numbers = {cell: number for number, cell in enumerate(self._found)}
        self._answers, self._nexts = numbered_cells(grid, self._found, self._numbers)
        self._classes = class_numbers(self._answers, self._nexts)
        self._parted = {}
        self._look_at_cuts()

    def _look_at_cuts(self):
        """Find for each cut that matters the first two cells, next to each other there, that are not alike."""
        for cell in self._found:
            mode, positions = cell
            for at, position in enumerate(positions):
                behind = moved_cell(cell, at, position + 1)
                if behind in self._numbers and self.class_of(cell) != self.class_of(behind):
                    self._parted.setdefault((mode, at, position), (cell, behind))

    def class_of(self, cell):
        """Return the number of the class of a cell."""
        return self._classes[self._numbers[cell]]

    def parted(self, mode, at, position):
        """Return two cells that the cut at this position parts and that are not alike, or None."""
        return self._parted.get((mode, at, position))

    def mattering(self, mode, at):
        """Return the positions of the cuts that matter for the level at this position."""
        return [position for position in range(len(self._grid.cuts_of(mode, at))) if self.parted(mode, at, position)]

    def history(self, one, other):
        """Return the first of the shortest histories that part two cells."""
        found = first_parting(self._answers, self._nexts, self._numbers[one], self._numbers[other])
        letters = self._grid.program.letters()
        return [letters[letter] for letter in found]


def _portrait_of(program):
    portrait = program.kept("portrait")
    if portrait is None:
        portrait = Portrait(needed_grid(program))
        program.keep("portrait", portrait)
    return portrait


def mattering_cuts(program):
    """Return the dict from the modes to dicts from the levels to the lists of the cuts that matter."""
    check_program(program)
    portrait, grid = _portrait_of(program), needed_grid(program)
    found = {}
    for mode in program.modes():
        found[mode] = {}
        for at, level in enumerate(program.levels()):
            cuts = grid.cuts_of(mode, at)
            found[mode][level] = [cuts[position] for position in portrait.mattering(mode, at)]
    return found


def alike_parts(program, state):
    """Return the sorted list of the parts of the mode of a state whose states are alike to it."""
    here = ratio_state(program, state)
    portrait, grid = _portrait_of(program), needed_grid(program)
    mode = here[0]
    wanted = portrait.class_of(grid.cell_at(here))
    rows = [_spans(grid, mode, at, portrait.mattering(mode, at)) for at in range(len(here[1]))]
    found = []
    for spans in every_choice(rows):
        if portrait.class_of((mode, tuple([span[0] for span in spans]))) == wanted:
            found.append((mode, tuple([_joined(grid, mode, at, span) for at, span in enumerate(spans)])))
    return found


def _spans(grid, mode, at, mattering):
    """Return tuples of the first and the last position of the stretches between cuts that matter."""
    firsts = [0] + [position + 1 for position in mattering]
    lasts = mattering + [len(grid.cuts_of(mode, at))]
    return list(zip(firsts, lasts))


def _joined(grid, mode, at, span):
    """Return the stretch that all those of a span make."""
    return grid.stretch(mode, at, span[0])[0], grid.stretch(mode, at, span[1])[1]


def why_matters(program, mode, level, cut):
    """Return a tuple (state, state, history) that shows that a cut matters, or None if it does not."""
    check_mode_level_cut(program, mode, level, cut)
    portrait, grid = _portrait_of(program), needed_grid(program)
    at = list(program.levels()).index(level)
    keys = [cut_key(other) for other in grid.cuts_of(mode, at)]
    key = cut_key(ratio_cut(cut))
    parted = portrait.parted(mode, at, keys.index(key)) if key in keys else None
    if parted is None:
        return None
    return grid.state(parted[0]), grid.state(parted[1]), portrait.history(parted[0], parted[1])


def is_why_matters(program, mode, level, cut, value):
    """Tell whether any value is a tuple that shows that a cut matters."""
    check_mode_level_cut(program, mode, level, cut)
    grid = needed_grid(program)
    if not isinstance(value, tuple) or len(value) != 3:
        return False
    state, other, history = value
    if not is_state(program, state) or not is_state(program, other) or not is_history(program, history):
        return False
    one, second = grid.cell_at(ratio_state(program, state)), grid.cell_at(ratio_state(program, other))
    at = list(program.levels()).index(level)
    if one[0] != mode or not _is_next(one, second, at):
        return False
    if cut_key(grid.stretches(second)[at][0]) != cut_key(ratio_cut(cut)):
        return False
    return grid.are_parted(one, second, history)


def _is_next(cell, other, at):
    """Tell whether the other cell is the next one at this position, and the same at all others."""
    return other == moved_cell(cell, at, cell[1][at] + 1)


def idle_levels(program):
    """Return the sorted list of the levels none of whose cuts matters."""
    found = mattering_cuts(program)
    return [level for level in program.levels() if not any([found[mode][level] for mode in found])]


def idle_rules(program, state):
    """Return the sorted list of the places of the rules that are idle from a state."""
    here = ratio_state(program, state)
    rows = list(program.places())
    return [place for place in rows if _is_idle(program, here, _without_rule(program, place))]


def idle_conditions(program, state):
    """Return the sorted list of tuples (place, position) of the conditions that are idle from a state."""
    here = ratio_state(program, state)
    found = []
    rows = list(program.places())
    for place in rows:
        for position in range(len(program.rule(place).when())):
            if _is_idle(program, here, program.without_condition(place, position)):
                found.append((place, position))
    return found


def _without_rule(program, place):
    """Return the program without a rule, or None if that is none."""
    try:
        return program.without_rule(place)
    except InvalidRules:
        return None


def _is_idle(program, state, other):
    return other is not None and are_alike(program, state, other, state)
