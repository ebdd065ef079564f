"""Grids: the cells of a closed family of cuts, and where letters lead them."""

from fademodes.cuts import count_ahead, count_not_behind, mark_of, precedes, ratio_cut
from fademodes.errors import TooMany
from fademodes.kinds import is_one_of, is_position
from fademodes.moves import WayBack, move_key
from fademodes.needed import needed_cuts
from fademodes.programs import condition_cut, wants_above

MOST_CELLS = 3000


def needed_grid(program):
    """Return the grid of the needed cuts of a program."""
    grid = program.kept("grid")
    if grid is None:
        grid = Grid(program, needed_cuts(program))
        program.keep("grid", grid)
    return grid


def every_choice(rows):
    """Return the sorted list of all tuples with one element of each of these sorted rows."""
    found = [()]
    for row in rows:
        found = [(*choice, at) for choice in found for at in row]
    return found


def many_choices(sizes):
    """Return how many tuples rows of these sizes make."""
    found = 1
    for size in sizes:
        found = found * size
    return found


def moved_cell(cell, at, position):
    """Return a cell with another position for the level at `at`."""
    mode, positions = cell
    return mode, (*positions[:at], position, *positions[at + 1:])


class Track:
    """A rule, told by the positions of a cell: when it applies, and where it leads."""

    def __init__(self, place, rule, tests, leads):
        self._place = place
        self._aim = rule.goal
        self._told = rule.answer
        self._tests = tests
        self._leads = leads

    def truths(self, positions):
        """Return the list of the truths of the conditions at these positions."""
        return [(positions[at] >= first) == is_wanted for at, first, is_wanted in self._tests]

    def takes(self, positions):
        """Tell whether the rule applies at these positions."""
        return all(self.truths(positions))

    def turn(self, positions):
        """Return what the rule does: the tuple (cell, answer, place)."""
        behind = tuple([self._leads[at][position] for at, position in enumerate(positions)])
        return (self._aim, behind), self._told, self._place


class Grid:
    """A program and a closed family of cuts, which part the ranges of its levels into stretches."""

    def __init__(self, program, family):
        self.program = program
        self._names = list(program.levels())
        self._ranges = list(program.levels().values())
        self._letters = program.letters()
        self._cuts = {}
        self._bounds = {}
        for mode in program.modes():
            self._cuts[mode] = [[ratio_cut(cut) for cut in family[mode][level]] for level in self._names]
            self._bounds[mode] = [_bounds_of(held, cuts) for held, cuts in zip(self._ranges, self._cuts[mode])]
        self._leads = {}
        self._tracks = {}
        self._turns = {}

    def cuts_of(self, mode, at):
        """Return the cuts for the level at this position."""
        return self._cuts[mode][at]

    def cell_at(self, state):
        """Return the cell in which a state lies."""
        mode, numbers = state
        found = []
        for level, cuts in zip(self._names, self._cuts[mode]):
            found.append(count_not_behind(cuts, (numbers[level], False)))
        return mode, tuple(found)

    def has_cell(self, value):
        """Tell whether any value is a cell."""
        if not isinstance(value, tuple) or len(value) != 2 or not is_one_of(value[0], self._cuts):
            return False
        mode, positions = value
        if not isinstance(positions, tuple) or len(positions) != len(self._names):
            return False
        return all([is_position(position, size) for position, size in zip(positions, self.sizes(mode))])

    def sizes(self, mode):
        """Return the numbers of stretches, level by level."""
        return [len(cuts) + 1 for cuts in self._cuts[mode]]

    def stretch(self, mode, at, position):
        """Return the stretch with this number, for the level at this position."""
        bounds = self._bounds[mode][at]
        return bounds[position], bounds[position + 1]

    def stretches(self, cell):
        """Return the tuple of the stretches of a cell."""
        mode, positions = cell
        return tuple([self.stretch(mode, at, position) for at, position in enumerate(positions)])

    def state(self, cell):
        """Return the state with the marks of the stretches of a cell."""
        marks = [mark_of(stretch) for stretch in self.stretches(cell)]
        return cell[0], dict(zip(self._names, marks))

    def span(self, mode, at, stretch):
        """Return the list of the numbers of the stretches that a stretch meets."""
        cuts = self._cuts[mode][at]
        return list(range(count_not_behind(cuts, stretch[0]), count_ahead(cuts, stretch[1]) + 1))

    def all_cells(self, modes):
        """Return the list of all cells of these modes, sorted as the modes are."""
        if sum([many_choices(self.sizes(mode)) for mode in modes]) > MOST_CELLS:
            raise TooMany("cells", MOST_CELLS)
        found = []
        for mode in modes:
            rows = [list(range(size)) for size in self.sizes(mode)]
            found.extend([(mode, choice) for choice in every_choice(rows)])
        return found

    def turns(self, cell):
        """Return the list of what each letter does, sorted: tuples (cell, answer, place)."""
        if cell not in self._turns:
            self._turns[cell] = [self._turn(cell, letter) for letter in self._letters]
        return self._turns[cell]

    def path(self, cell, history):
        """Return the list of what each letter of a history does from a cell on: tuples (cell, answer, place)."""
        found = []
        here = cell
        for letter in history:
            found.append(self.turns(here)[self._letters.index(letter)])
            here = found[-1][0]
        return found

    def behind(self, cell, history):
        """Return the cell to which a history leads."""
        path = self.path(cell, history)
        return path[-1][0] if path else cell

    def are_parted(self, one, other, history):
        """Tell whether a history gets other last answers from two cells."""
        return len(history) > 0 and self.path(one, history)[-1][1] != self.path(other, history)[-1][1]

    def truths(self, place, cell):
        """Return the list of the truths of the conditions of a rule in a cell."""
        return self._track(place, self.program.rule(place)).truths(cell[1])

    def _turn(self, cell, letter):
        mode, positions = cell
        for at, rule in enumerate(self.program.rules(mode, letter)):
            track = self._track((mode, letter, at), rule)
            if track.takes(positions):
                return track.turn(positions)

    def _track(self, place, rule):
        if place not in self._tracks:
            tests = [self._test(place[0], condition) for condition in rule.when()]
            leads = [self._lead(place, rule.goal, at) for at in range(len(self._names))]
            self._tracks[place] = Track(place, rule, tests, leads)
        return self._tracks[place]

    def _test(self, mode, condition):
        at = self._names.index(condition[0])
        return at, self._first_above(mode, at, condition_cut(condition)), wants_above(condition)

    def _first_above(self, mode, at, cut):
        """Return the number of the first stretch above a cut that is outer or beyond, or one of the family."""
        cuts = self._cuts[mode][at]
        if not precedes(cut, self._bounds[mode][at][-1]):
            return len(cuts) + 1
        return count_not_behind(cuts, cut)

    def _lead(self, place, goal, at):
        """Return the list of the numbers of the stretches to which a rule leads those of its mode.

        A cut of the goal is passed from where it is led back to on, since moves keep the order.
        """
        move = self.program.move_of(place, self._names[at])
        key = place[0], goal, at, move_key(move)
        if key not in self._leads:
            self._leads[key] = self._new_lead(place[0], goal, at, move)
        return self._leads[key]

    def _new_lead(self, mode, goal, at, move):
        way = WayBack(move, self._ranges[at])
        firsts = [self._first_above(mode, at, way.led(cut)) for cut in self._cuts[goal][at]]
        found = []
        passed = 0
        for position in range(len(self._cuts[mode][at]) + 1):
            while passed < len(firsts) and firsts[passed] <= position:
                passed += 1
            found.append(passed)
        return found


def _bounds_of(held, cuts):
    first, second = held.outer()
    return [first, *cuts, second]
