"""Watching: what one who hears answers knows of the state."""

from fademodes.climbs import check_level
from fademodes.errors import InvalidHeard, TooMany
from fademodes.grids import needed_grid
from fademodes.guesses import groups_behind, pairs_key
from fademodes.kinds import is_list, is_name, is_one_of
from fademodes.machines import numbered_cells
from fademodes.runs import check_history
from fademodes.sides import ENDS, farther, image
from fademodes.starts import cells_of_start, check_starts, part_in_cell, reach_of

MOST_HEARD = 300
MOST_SETS = 4000


def heard_ends(program, starts, heard, level):
    """Return the dict from the cells that have states that fit to tuples (lower end, upper end) of a level."""
    check_starts(program, starts)
    _check_heard(program, heard)
    check_level(program, level)
    grid = needed_grid(program)
    reach = reach_of(grid, starts)
    ends = _ends_of_starts(grid, starts, list(program.levels()).index(level), len(reach.found))
    letters = program.letters()
    for letter, answer in heard:
        ends = _ends_behind(grid, ends, _asked(letters, letter), answer, level)
    return {cell: ends[cell] for cell in sorted(ends)}


def _asked(letters, letter):
    """Return the list of the positions of the letters that were perhaps asked: all, if none was heard."""
    return list(range(len(letters))) if letter is None else [letters.index(letter)]


def _ends_of_starts(grid, starts, at, limit):
    """Return the dict from the cells that starts meet to tuples (lower end, upper end) of the level at `at`."""
    ends = {}
    for start in starts:
        for cell in cells_of_start(grid, start, limit):
            stretch = part_in_cell(grid, start, cell)[at]
            ends[cell] = _wider(ends.get(cell, stretch), stretch)
    return ends


def _ends_behind(grid, ends, asked, answer, level):
    """Return the ends behind one of the letters at these positions that gets this answer."""
    found = {}
    for cell in ends:
        turns = grid.turns(cell)
        for letter in asked:
            behind, told, place = turns[letter]
            if told == answer:
                move = grid.program.move_of(place, level)
                led = (image(ENDS[1], move, ends[cell][0]), image(ENDS[0], move, ends[cell][1]))
                found[behind] = _wider(found.get(behind, led), led)
    return found


def _wider(one, other):
    """Return the lower one of two lower ends, and the upper one of two upper ends."""
    return farther(ENDS[1], one[0], other[0]), farther(ENDS[0], one[1], other[1])


def heard_modes(program, starts, heard):
    """Return the sorted list of the modes of the states that fit."""
    check_starts(program, starts)
    _check_heard(program, heard)
    grid = needed_grid(program)
    here = {cell: True for cell in reach_of(grid, starts).met()}
    letters = program.letters()
    for letter, answer in heard:
        asked = _asked(letters, letter)
        turns = [grid.turns(cell)[at] for cell in here for at in asked]
        here = {turn[0]: True for turn in turns if turn[1] == answer}
    return sorted({cell[0] for cell in here})


class Watch:
    """The cells that are come to from starts, numbered, and the groups behind histories."""

    def __init__(self, program, starts):
        grid = needed_grid(program)
        reach = reach_of(grid, starts)
        self._modes = [cell[0] for cell in reach.found]
        self._answers, self._nexts = numbered_cells(grid, reach.found, reach.numbers)
        self.first = [tuple(range(len(reach.met())))]

    def behind(self, groups, letter):
        """Return the groups behind one more letter."""
        return groups_behind(groups, letter, self._answers, self._nexts)

    def is_told(self, groups):
        """Tell whether each group is of one mode."""
        return all([self._modes[number] == self._modes[group[0]] for group in groups for number in group])


def telling(program, starts):
    """Return the first of the shortest histories that tell the mode, or None."""
    check_starts(program, starts)
    watch = Watch(program, starts)
    letters = program.letters()
    if watch.is_told(watch.first):
        return []
    seen = {pairs_key(watch.first): True}
    layer = [(watch.first, [])]
    while layer:
        fresh = []
        for groups, history in layer:
            for letter, name in enumerate(letters):
                found = watch.behind(groups, letter)
                if watch.is_told(found):
                    return [*history, name]
                key = pairs_key(found)
                if key not in seen:
                    seen[key] = True
                    fresh.append((found, [*history, name]))
        # Only the sets of histories that are shorter than the one that tells count.
        if len(seen) > MOST_SETS:
            raise TooMany("sets", MOST_SETS)
        layer = fresh
    return None


def is_telling(program, starts, history):
    """Tell whether a history tells the mode."""
    check_starts(program, starts)
    check_history(program, history)
    watch = Watch(program, starts)
    letters = program.letters()
    groups = watch.first
    for letter in history:
        groups = watch.behind(groups, letters.index(letter))
    return watch.is_told(groups)


def _check_heard(program, heard):
    if not is_list(heard) or len(heard) > MOST_HEARD:
        raise InvalidHeard(None)
    letters = program.letters()
    for position, value in enumerate(heard):
        if not _is_heard(letters, value):
            raise InvalidHeard(position)


def _is_heard(letters, value):
    if not isinstance(value, tuple) or len(value) != 2:
        return False
    return (value[0] is None or is_one_of(value[0], letters)) and is_name(value[1])
