"""Courses: what comes of a word that is done on and on from a state."""

from fademodes.errors import InvalidCount, InvalidHistory, InvalidPosition
from fademodes.grids import needed_grid
from fademodes.kinds import is_integer, is_position
from fademodes.moves import Move
from fademodes.runs import check_history, check_many_letters, ratio_state


class Course:
    """A state and a word that is done on and on: the ring of its cells, and the limits of its levels."""

    def __init__(self, program, state, word):
        here = ratio_state(program, state)
        check_history(program, word)
        if len(word) == 0:
            raise InvalidHistory(None)
        self._grid = needed_grid(program)
        check_many_letters(len(word))
        self._state = here
        self._word = list(word)
        self._passed = []
        self._ahead = self._find_ring()
        self._ring = len(self._passed) - self._ahead
        self._entry = self._numbers_from(here[1], 0, self._ahead)
        self._stands_from = self._find_standing()

    def _find_ring(self):
        """Find the cells until one comes again, and return behind how many turns it came first."""
        numbers = {}
        cell = self._grid.cell_at(self._state)
        while cell not in numbers:
            numbers[cell] = len(self._passed)
            self._passed.append(cell)
            cell = self._grid.behind(cell, self._word)
        return numbers[cell]

    def _moves_at(self, turns):
        """Return the list of the dicts of moves that the word makes, letter by letter, behind so many turns."""
        path = self._grid.path(self._cell_behind(turns), self._word)
        return [self._grid.program.rule(place).moves() for _, _, place in path]

    def _numbers_from(self, numbers, turns, more):
        """Return the numbers of the levels, given those behind so many turns, behind some more."""
        found = dict(numbers)
        for turn in range(turns, turns + more):
            for moves in self._moves_at(turn):
                for level in moves:
                    found[level] = moves[level].at(found[level])
        return found

    def _moves_around(self, place):
        """Return the dict of the moves of the levels once around the ring, from a place of it on."""
        ranges = self._grid.program.levels()
        found = {level: Move.staying(ranges[level]) for level in ranges}
        for turn in range(self._ahead + place, self._ahead + place + self._ring):
            for moves in self._moves_at(turn):
                for level in moves:
                    found[level] = found[level].then(moves[level])
        return found

    def _find_standing(self):
        """Return the least number of turns behind which the states come again, or None.

        States that have come again once come again for ever, so the numbers at the first place
        of the ring tell behind how many rounds that is so, and the last of these is looked at.
        """
        moves = self._moves_around(0)
        rounds = [moves[level].tends(self._entry[level])[1] for level in moves]
        if None in rounds:
            return None
        many = max(rounds, default=0)
        if many == 0:
            return self._ahead
        turns = self._ahead + (many - 1) * self._ring
        numbers = {level: _done(moves[level], self._entry[level], many - 1) for level in moves}
        again = self._numbers_from(numbers, turns, self._ring)
        while numbers != again:
            numbers = self._numbers_from(numbers, turns, 1)
            again = self._numbers_from(again, turns, 1)
            turns += 1
        return turns

    @property
    def begin(self):
        """The first number of turns behind which a cell comes again."""
        return self._ahead

    @property
    def ring(self):
        """The number of turns behind which cells come again."""
        return self._ring

    @property
    def stands_from(self):
        """The least number of turns behind which states come again, or None."""
        return self._stands_from

    def cell(self, turns):
        """Return the cell behind so many turns."""
        _check_turns(turns)
        if turns > 10 ** 30:
            raise InvalidCount(turns)
        return self._cell_behind(turns)

    def _cell_behind(self, turns):
        if turns < self._ahead:
            return self._passed[turns]
        return self._passed[self._ahead + (turns - self._ahead) % self._ring]

    def limits(self, place):
        """Return the dict from the levels to tuples (limit, whether it is met) at a place of the ring."""
        if not is_position(place, self._ring):
            raise InvalidPosition(place)
        numbers = self._numbers_from(self._entry, self._ahead, place)
        moves = self._moves_around(place)
        found = {}
        for level in moves:
            limit, turns = moves[level].tends(numbers[level])
            found[level] = (limit, turns is not None)
        return found

    def limit_cell(self, place):
        """Return the cell of the state of the limits at a place of the ring."""
        limits = self.limits(place)
        mode = self._passed[self._ahead + place][0]
        return self._grid.cell_at((mode, {level: limits[level][0] for level in limits}))

    def walk(self, turns):
        """Yield the states behind 0, 1, .. up to so many turns."""
        _check_turns(turns)
        check_many_letters(turns * len(self._word))
        mode, numbers = self._state
        yield mode, dict(numbers)
        for turn in range(turns):
            numbers = self._numbers_from(numbers, turn, 1)
            yield self._cell_behind(turn + 1)[0], dict(numbers)

    def __eq__(self, other):
        if not isinstance(other, Course):
            return False
        if self._state != other._state or self._word != other._word:
            return False
        return self._grid.program == other._grid.program


def _done(move, number, times):
    """Return what becomes of a number if a move is done so many times.

    With a divisor that is not 1, either its limit is soon reached or the times are few.
    """
    if times > 0 and move.divisor == 1:
        return move.done(times).at(number)
    limit, turns = move.tends(number)
    if turns <= times:
        return limit
    found = number
    for _ in range(times):
        found = move.at(found)
    return found


def _check_turns(value):
    if not is_integer(value) or value < 0:
        raise InvalidCount(value)
