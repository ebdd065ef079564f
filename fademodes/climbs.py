"""Climbs: how the ends of a level come about, from start to start, by letters and by rounds."""

from collections import deque

from fademodes.errors import UnknownLevel
from fademodes.grids import MOST_CELLS, needed_grid
from fademodes.kinds import is_one_of
from fademodes.sides import check_side, end_of_stretch, image, is_beyond, limit
from fademodes.starts import cells_of_start, check_starts, part_in_cell, reach_of, state_in_part


def check_ends(program, starts, level, side):
    """Raise the error for the first of these values that is not valid."""
    check_starts(program, starts)
    check_level(program, level)
    check_side(side)


def check_level(program, level):
    """Raise UnknownLevel for any value that is no level of a program."""
    if not is_one_of(level, program.levels()):
        raise UnknownLevel(level)


def composed(moves):
    """Return one or more moves, one after the other, as one move."""
    found = moves[0]
    for move in moves[1:]:
        found = found.then(move)
    return found


class Field:
    """The cells that are come to from starts, and what letters make of the ends of one level there."""

    def __init__(self, program, starts, level, side):
        self.side = side
        self.held = program.levels()[level]
        self.grid = needed_grid(program)
        self.reach = reach_of(self.grid, starts)
        self._starts = starts
        self._level = level
        self._at = list(program.levels()).index(level)
        self._moves = {}
        self.ways = [[self._way(turn) for turn in self.grid.turns(cell)] for cell in self.reach.found]
        self.begins = self._found_begins()

    def _way(self, turn):
        """Return the number of the cell behind a turn, and the move of the level."""
        cell, _, place = turn
        if place not in self._moves:
            self._moves[place] = self.grid.program.move_of(place, self._level)
        return self.reach.numbers[cell], self._moves[place]

    def _found_begins(self):
        """Return a dict from the numbers of the cells that are met to tuples (end, position of the start)."""
        found = {}
        for position, start in enumerate(self._starts):
            for cell in cells_of_start(self.grid, start, MOST_CELLS):
                number = self.reach.numbers[cell]
                end = end_of_stretch(self.side, self.level_part(position, number))
                if number not in found or is_beyond(self.side, end, found[number][0]):
                    found[number] = (end, position)
        return found

    def start_part(self, position, number):
        """Return the stretches, level by level, of that part of a start that lies in a cell."""
        return part_in_cell(self.grid, self._starts[position], self.reach.found[number])

    def state(self, position, part):
        """Return a state of a start, with the marks of these stretches of its part."""
        return state_in_part(self._starts[position], part)

    def level_part(self, position, number):
        """Return the stretch of the level in that part of a start that lies in a cell."""
        return self.start_part(position, number)[self._at]

    def part_beyond(self, position, number, stretch):
        """Return that part of a start in a cell, with this stretch for the level."""
        found = self.start_part(position, number)
        found[self._at] = stretch
        return found

    def end_behind(self, end, way):
        """Return what a way makes of an end."""
        return image(self.side, way[1], end)

    def named(self, letters):
        """Return the names of letters that are told by their positions."""
        names = self.grid.program.letters()
        return [names[letter] for letter in letters]


class Climb:
    """The ends in all cells of a field, and for each of them how it comes about.

    The ends are first led along the histories by which the cells are come to, and then, cell
    by cell, along each letter that makes a farther end. Where that leads round, to a cell from
    which the end itself has come, going round on and on leads to a limit, and that is taken.
    """

    def __init__(self, field):
        self._field = field
        self.ends = []
        self._came = []
        self._rounds = {}
        self._begin()
        self._go_on()

    def _begin(self):
        reach, ways = self._field.reach, self._field.ways
        for number in range(len(reach.found)):
            came = reach.came(number)
            if came is None:
                end = self._field.begins[number][0]
            else:
                end = self._field.end_behind(self.ends[came[0]], ways[came[0]][came[1]])
            self.ends.append(end)
            self._came.append(came)

    def _go_on(self):
        waiting = deque(list(range(len(self.ends))))
        is_waiting = [True] * len(self.ends)
        while waiting:
            here = waiting.popleft()
            is_waiting[here] = False
            for letter, way in enumerate(self._field.ways[here]):
                end = self._field.end_behind(self.ends[here], way)
                if is_beyond(self._field.side, end, self.ends[way[0]]):
                    self._take(here, letter, way[0], end)
                    if not is_waiting[way[0]]:
                        is_waiting[way[0]] = True
                        waiting.append(way[0])

    def _take(self, here, letter, number, end):
        """Take a farther end for a cell, to which a letter leads from here."""
        root, letters = self._way_back(here, number)
        if root != number:
            self.ends[number] = end
            self._came[number] = (here, letter)
            return
        letters.append(letter)
        self.ends[number] = limit(self._field.side, self._move_along(number, letters), self.ends[number])
        self._came[number] = None
        self._rounds[number] = letters

    def _way_back(self, number, wanted):
        """Return the first cell from which an end has come, or the wanted one, and the letters from there."""
        letters = []
        here = number
        while here != wanted and self._came[here] is not None:
            here, letter = self._came[here]
            letters.append(letter)
        return here, letters[::-1]

    def _move_along(self, number, letters):
        moves = []
        here = number
        for letter in letters:
            here, move = self._field.ways[here][letter]
            moves.append(move)
        return composed(moves)

    def paper(self, number):
        """Return a paper that leads to the cell with this number and its end.

        A limit does not depend on the end from which going round begins, as long as that is
        not beyond it: so any history that leads to the cell of the round will do.
        """
        field, reach = self._field, self._field.reach
        root, behind = self._way_back(number, None)
        first = reach.first_met(root)
        position = field.begins[first][1]
        state = field.state(position, field.start_part(position, first))
        return position, state, reach.history(root), field.named(self._rounds.get(root, [])), field.named(behind)
