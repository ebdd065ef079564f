"""Slack: how far the number in a condition can be moved without any history taking other rules."""

from fademodes.climbs import Climb, Field
from fademodes.errors import InvalidNumber, InvalidPosition, TooMany
from fademodes.grids import needed_grid
from fademodes.kinds import is_position
from fademodes.passing import first_passing, is_passed
from fademodes.programs import condition_cut, wants_above
from fademodes.ratios import Ratio, is_number
from fademodes.runs import MOST_LETTERS_RUN
from fademodes.sides import ENDS, UPPER, farther
from fademodes.starts import check_starts, reach_of


class Deciders:
    """The cells that are come to in which the conditions of one rule decide."""

    def __init__(self, grid, found, place):
        self._truths = []
        self._wrong = {}
        mode, letter, position = place
        at = grid.program.letters().index(letter)
        for cell in sorted(found):
            if cell[0] == mode:
                taken = grid.turns(cell)[at][2][2]
                if taken == position:
                    self._truths.append(cell)
                elif taken > position:
                    self._add_wrong(cell, grid.truths(place, cell))

    def _add_wrong(self, cell, truths):
        """Add a cell in which the rule would be taken but for its conditions.

        A condition that is false decides if it alone is.
        """
        wrong = [position for position, truth in enumerate(truths) if not truth]
        if len(wrong) == 1:
            self._wrong.setdefault(wrong[0], []).append(cell)

    def both(self, position):
        """Return the lists of the cells in which a condition decides and is true, and is false."""
        return list(self._truths), list(self._wrong.get(position, []))

    def lower_and_upper(self, condition, position):
        """Return the cells whose numbers must stay below the cut of a condition, and those whose must stay above."""
        are_true, are_false = self.both(position)
        return (are_false, are_true) if wants_above(condition) else (are_true, are_false)


class Outlook:
    """The ends of all levels in the cells that are come to, each worked out when it is first asked for."""

    def __init__(self, program, starts):
        self._program = program
        self._starts = starts
        self._ends = {}

    def end(self, level, side, among):
        """Return the end of a level over these cells, or None if there are none."""
        if (level, side) not in self._ends:
            field = Field(self._program, self._starts, level, side)
            self._ends[level, side] = dict(zip(field.reach.found, Climb(field).ends))
        found = None
        for cell in among:
            end = self._ends[level, side][cell]
            found = end if found is None else farther(side, found, end)
        return found

    def slack_of(self, condition, lower, upper):
        """Return the slack of a condition for which these cells lie below its cut and above it."""
        level, is_strict = condition[0], condition_cut(condition)[1]
        first, second = self.end(level, UPPER, lower), self.end(level, ENDS[1], upper)
        if is_strict and first is not None:
            first = first[0], False
        if not is_strict and second is not None:
            second = second[0], True
        return first, second


def deciding(program, starts, place, position):
    """Return the cells in which a condition decides and is true, and those in which it decides and is false."""
    _checked_condition(program, starts, place, position)
    return _deciders(program, starts, place).both(position)


def slack(program, starts, place, position):
    """Return the tuple of two cuts between which the number of a condition can be moved."""
    condition = _checked_condition(program, starts, place, position)
    lower, upper = _deciders(program, starts, place).lower_and_upper(condition, position)
    return Outlook(program, starts).slack_of(condition, lower, upper)


def beyond_slack(program, starts, place, position, number):
    """Return a tuple (state, history) whose last letter takes another rule with this number, or None."""
    level, side, _ = _checked_condition(program, starts, place, position)
    if not is_number(number):
        raise InvalidNumber(number)
    condition = level, side, Ratio.of(number)
    lower, upper = _deciders(program, starts, place).lower_and_upper(condition, position)
    cut = condition_cut(condition)
    found = []
    is_in = True
    for end_side, among in zip(ENDS, (lower, upper)):
        field = Field(program, starts, level, end_side)
        wanted = [field.reach.numbers[cell] for cell in among]
        if is_passed(field, cut, wanted):
            is_in = False
            found.append(first_passing(field, cut, wanted, MOST_LETTERS_RUN - 1))
    if is_in:
        return None
    return _shortest(found, place[1])


def _shortest(found, letter):
    """Return the tuple (state, history) with the shortest history, with a letter behind it.

    Only of the shortest one it is sure that no letter ahead of the last one takes another rule.
    """
    rows = [row for row in found if row is not None]
    if not rows:
        raise TooMany("letters", MOST_LETTERS_RUN)
    state, history = min(rows, key=_many_letters)
    return state, history + [letter]


def _many_letters(row):
    return len(row[1])


def slacks(program, starts):
    """Yield tuples (place, position, slack) for all conditions, sorted."""
    check_starts(program, starts)
    grid = needed_grid(program)
    found = reach_of(grid, starts).found
    outlook = Outlook(program, starts)
    rows = list(program.places())
    for place in rows:
        deciders = Deciders(grid, found, place)
        for position, condition in enumerate(program.rule(place).when()):
            lower, upper = deciders.lower_and_upper(condition, position)
            yield place, position, outlook.slack_of(condition, lower, upper)


def _checked_condition(program, starts, place, position):
    """Return the condition at a position of the rule at a place."""
    check_starts(program, starts)
    when = program.rule(place).when()
    if not is_position(position, len(when)):
        raise InvalidPosition(position)
    return when[position]


def _deciders(program, starts, place):
    grid = needed_grid(program)
    return Deciders(grid, reach_of(grid, starts).found, place)
