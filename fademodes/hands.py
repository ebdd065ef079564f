"""Hands: in which states a hand that chooses letters in some modes can avoid bad answers for ever."""

from fademodes.climbs import check_level
from fademodes.errors import InvalidBad, InvalidHand
from fademodes.games import forced_ranks, safe_letter
from fademodes.grids import moved_cell, needed_grid
from fademodes.kinds import is_integer, is_list, is_name, is_one_of
from fademodes.programs import check_program
from fademodes.runs import ratio_state
from fademodes.starts import Reach


class Contest:
    """Cells, all those to which letters lead among them, in which a hand wants no bad answer."""

    def __init__(self, grid, found, hand, bad):
        self.found = found
        self._grid = grid
        self._numbers = {cell: number for number, cell in enumerate(found)}
        self._bad = list(bad)
        self._are_hands = [cell[0] in hand for cell in found]
        self.leads = [[self._led(turn) for turn in grid.turns(cell)] for cell in found]
        self.ranks = forced_ranks(self._are_hands, self.leads)

    def _led(self, turn):
        """Return the number of the cell behind a turn, or None for a bad answer."""
        return None if turn[1] in self._bad else self._numbers[turn[0]]

    def rank(self, cell):
        """Return the least number of letters within which the states of a cell are forced, or None."""
        return self.ranks[self._numbers[cell]]

    def is_hand(self, number):
        """Tell whether the hand chooses in the cell with this number."""
        return self._are_hands[number]

    def rank_if_set(self, cell, taking, at, position):
        """Return the rank of a cell if the letters of `taking` led the level at `at` to this position."""
        leads = list(self.leads)
        for number, letter, behind in taking:
            leads[number] = list(leads[number])
            leads[number][letter] = self._numbers[moved_cell(behind, at, position)]
        return forced_ranks(self._are_hands, leads)[self._numbers[cell]]

    def taking(self, place):
        """Return tuples (number, letter, cell behind) where the rule at a place is taken and gives no bad answer."""
        letter = self._grid.program.letters().index(place[1])
        found = []
        for number, cell in enumerate(self.found):
            behind, answer, taken = self._grid.turns(cell)[letter]
            if taken == place and answer not in self._bad:
                found.append((number, letter, behind))
        return found


def safe_cells(program, hand, bad):
    """Return the sorted list of all cells whose states are safe."""
    contest = _contest_of_all(program, hand, bad)
    return [cell for cell, rank in zip(contest.found, contest.ranks) if rank is None]


def is_safe(program, state, hand, bad):
    """Tell whether a state is safe."""
    return forced_within(program, state, hand, bad) is None


def forced_within(program, state, hand, bad):
    """Return the least number of letters within which a state is forced, or None if it is safe."""
    here = ratio_state(program, state)
    _check_hand(program, hand, bad)
    grid = needed_grid(program)
    reach = Reach(grid, [grid.cell_at(here)])
    return Contest(grid, reach.found, hand, bad).ranks[0]


def safe_stretches(program, state, level, hand, bad):
    """Return the sorted list of the longest stretches of numbers for a level with which a state is safe."""
    mode, numbers = ratio_state(program, state)
    at = _checked_level(program, level)
    contest = _contest_of_all(program, hand, bad)
    grid = needed_grid(program)
    here = grid.cell_at((mode, numbers))
    positions = range(grid.sizes(mode)[at])
    flags = [contest.rank(moved_cell(here, at, position)) is None for position in positions]
    return _joined_stretches(grid, mode, at, flags)


def setting_stretches(program, state, place, level, hand, bad):
    """Return the sorted list of the longest stretches of numbers such that a state is safe if a rule sets the level so.

    A move that sets a level leads no cut back to an inner one. So the needed cuts are a closed
    family of each of these programs, and two numbers of one stretch are alike.
    """
    here = ratio_state(program, state)
    goal = program.rule(place).goal
    at = _checked_level(program, level)
    contest = _contest_of_all(program, hand, bad)
    grid = needed_grid(program)
    cell, taking = grid.cell_at(here), contest.taking(place)
    flags = [contest.rank_if_set(cell, taking, at, position) is None for position in range(grid.sizes(goal)[at])]
    return _joined_stretches(grid, goal, at, flags)


def choices(program, hand, bad):
    """Return CHOICES for all safe cells: a dict from them to letters, or to None in modes of the world."""
    contest = _contest_of_all(program, hand, bad)
    letters = program.letters()
    found = {}
    for number, cell in enumerate(contest.found):
        if contest.ranks[number] is None:
            is_hand = contest.is_hand(number)
            found[cell] = letters[safe_letter(contest.leads[number], contest.ranks)] if is_hand else None
    return found


def ranks(program, hand, bad):
    """Return RANKS for all cells that are not safe: a dict from them to the least numbers of letters."""
    contest = _contest_of_all(program, hand, bad)
    return {cell: rank for cell, rank in zip(contest.found, contest.ranks) if rank is not None}


def is_choices(program, hand, bad, value):
    """Tell whether any value is a dict that shows that the states of its cells are safe."""
    grid = _checked_grid(program, hand, bad)
    if not isinstance(value, dict) or not all([grid.has_cell(cell) for cell in value]):
        return False
    return all([_keeps_safe(grid, cell, hand, bad, value) for cell in value])


def _keeps_safe(grid, cell, hand, bad, value):
    turns, letters = grid.turns(cell), grid.program.letters()
    if cell[0] in hand:
        if not is_one_of(value[cell], letters):
            return False
        turns = [turns[letters.index(value[cell])]]
    elif value[cell] is not None:
        return False
    return all([turn[1] not in bad and turn[0] in value for turn in turns])


def is_ranks(program, hand, bad, value):
    """Tell whether any value is a dict that shows within how many letters the states of its cells are forced."""
    grid = _checked_grid(program, hand, bad)
    if not isinstance(value, dict) or not all([grid.has_cell(cell) for cell in value]):
        return False
    if not all([is_integer(value[cell]) and value[cell] >= 1 for cell in value]):
        return False
    return all([_stays_forced(grid, cell, hand, bad, value) for cell in value])


def _stays_forced(grid, cell, hand, bad, value):
    found = [turn[1] in bad or (turn[0] in value and value[turn[0]] < value[cell]) for turn in grid.turns(cell)]
    return all(found) if cell[0] in hand else any(found)


def check_names(value):
    """Raise InvalidBad for any value that is no list of names of answers."""
    if not is_list(value):
        raise InvalidBad(None)
    for position, name in enumerate(value):
        if not is_name(name):
            raise InvalidBad(position)


def _check_hand(program, hand, bad):
    check_program(program)
    if not is_list(hand):
        raise InvalidHand(None)
    modes = program.modes()
    for position, mode in enumerate(hand):
        if not is_one_of(mode, modes):
            raise InvalidHand(position)
    check_names(bad)


def _checked_grid(program, hand, bad):
    _check_hand(program, hand, bad)
    return needed_grid(program)


def _contest_of_all(program, hand, bad):
    grid = _checked_grid(program, hand, bad)
    return Contest(grid, grid.all_cells(program.modes()), hand, bad)


def _checked_level(program, level):
    """Return the position of a level of a program."""
    check_level(program, level)
    return list(program.levels()).index(level)


def _joined_stretches(grid, mode, at, flags):
    """Return the list of the longest stretches of a level that are made of stretches with a flag."""
    found = []
    for position, flag in enumerate(flags):
        if flag:
            stretch = grid.stretch(mode, at, position)
            if position > 0 and flags[position - 1]:
                stretch = found.pop()[0], stretch[1]
            found.append(stretch)
    return found
