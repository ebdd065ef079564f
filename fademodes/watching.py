"""Watching: what one who hears answers knows of the state."""

from fademodes.climbs import check_level
from fademodes.cuts import cut_key, precedes
from fademodes.errors import InvalidHeard, TooMany
from fademodes.grids import needed_grid
from fademodes.guesses import groups_behind, pairs_key
from fademodes.kinds import is_list, is_name, is_one_of
from fademodes.machines import numbered_cells
from fademodes.runs import check_history
from fademodes.starts import cells_of_start, check_starts, part_in_cell, reach_of

MOST_HEARD = 300
MOST_SETS = 4000


def heard_ends(program, starts, heard, level):
    """Return the dict from the cells that have states that fit to tuples (lower end, upper end) of a level."""
    check_starts(program, starts)
    _check_heard(program, heard)
    check_level(program, level)
    grid = needed_grid(program)
    reach = reach_of(grid, starts)
    ears = Ears(grid, level)
    ends = ears.first(starts, len(reach.found))
    letters = program.letters()
    for letter, answer in heard:
        ends = ears.behind(ends, _asked(letters, letter), answer)
    return {cell: ends[cell] for cell in sorted(ends)}


class Ears:
    """How letters that get an answer that was heard lead the ends of a level on.

    Ends are tuples (lower end, upper end), in dicts from the cells that have states that fit.
    """

    def __init__(self, grid, level):
        self._grid = grid
        self._level = level
        self._images = {}

    def first(self, starts, limit):
        """Return the ends in the cells that starts meet, which are at most so many."""
        at = list(self._grid.program.levels()).index(self._level)
        ends = {}
        for start in starts:
            for cell in cells_of_start(self._grid, start, limit):
                _widen(ends, cell, part_in_cell(self._grid, start, cell)[at])
        return ends

    def behind(self, ends, asked, answer):
        """Return the ends behind one of the letters at these positions that gets this answer."""
        found = {}
        for cell in ends:
            turns = self._grid.turns(cell)
            for letter in asked:
                behind, told, place = turns[letter]
                if told == answer:
                    _widen(found, behind, self._led(place, ends[cell]))
        return found

    def _led(self, place, pair):
        """Return what the rule at a place makes of two ends: the same ones come again and again."""
        lower, upper = pair
        key = place, cut_key(lower), cut_key(upper)
        if key not in self._images:
            move = self._grid.program.move_of(place, self._level)
            self._images[key] = move.lower_image(lower), move.upper_image(upper)
        return self._images[key]


def _widen(ends, cell, pair):
    """Keep the farther ones of these ends and those that are known for a cell."""
    if cell not in ends:
        ends[cell] = pair
        return
    lower, upper = ends[cell]
    ends[cell] = (pair[0] if precedes(pair[0], lower) else lower), (pair[1] if precedes(upper, pair[1]) else upper)


def _asked(letters, letter):
    """Return the list of the positions of the letters that were perhaps asked: all, if none was heard."""
    return list(range(len(letters))) if letter is None else [letters.index(letter)]


def heard_modes(program, starts, heard):
    """Return the sorted list of the modes of the states that fit."""
    check_starts(program, starts)
    _check_heard(program, heard)
    grid = needed_grid(program)
    here = {cell: True for cell in reach_of(grid, starts).met()}
    letters = program.letters()
    for letter, answer in heard:
        asked = _asked(letters, letter)
        turns = [grid.turns(cell)[at] for cell in here for at in asked]
        here = {turn[0]: True for turn in turns if turn[1] == answer}
    return sorted({cell[0] for cell in here})


class Watch:
    """The cells that are come to from starts, numbered, and the groups behind histories."""

    def __init__(self, program, starts):
        grid = needed_grid(program)
        reach = reach_of(grid, starts)
        self._modes = [cell[0] for cell in reach.found]
        self._answers, self._nexts = numbered_cells(grid, reach.found, reach.numbers)
        self.groups_met = [tuple(range(len(reach.met())))]

    def behind(self, groups, letter):
        """Return the groups behind one more letter."""
        return groups_behind(groups, letter, self._answers, self._nexts)

    def is_told(self, groups):
        """Tell whether each group is of one mode."""
        return all([self._modes[number] == self._modes[group[0]] for group in groups for number in group])


def telling(program, starts):
    """Return the first of the shortest histories that tell the mode, or None."""
    check_starts(program, starts)
    watch = Watch(program, starts)
    letters = program.letters()
    if watch.is_told(watch.groups_met):
        return []
    seen = {pairs_key(watch.groups_met): True}
    layer = [(watch.groups_met, [])]
    while layer:
        fresh = []
        for groups, history in layer:
            for letter, name in enumerate(letters):
                found = watch.behind(groups, letter)
                if watch.is_told(found):
                    return [*history, name]
                key = pairs_key(found)
                if key not in seen:
                    seen[key] = True
                    fresh.append((found, [*history, name]))
        # Only the sets of histories that are shorter than the one that tells count.
        if len(seen) > MOST_SETS:
            raise TooMany("sets", MOST_SETS)
        layer = fresh
    return None


def is_telling(program, starts, history):
    """Tell whether a history tells the mode."""
    check_starts(program, starts)
    check_history(program, history)
    watch = Watch(program, starts)
    letters = program.letters()
    groups = watch.groups_met
    for letter in history:
        groups = watch.behind(groups, letters.index(letter))
    return watch.is_told(groups)


def _check_heard(program, heard):
    if not is_list(heard) or len(heard) > MOST_HEARD:
        raise InvalidHeard(None)
    letters = program.letters()
    for position, value in enumerate(heard):
        if not _is_heard(letters, value):
            raise InvalidHeard(position)


def _is_heard(letters, value):
    if not isinstance(value, tuple) or len(value) != 2:
        return False
    return (value[0] is None or is_one_of(value[0], letters)) and is_name(value[1])
