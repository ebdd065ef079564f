"""Machines: rows of answers and next rows, and the least machine of a state."""

from fademodes.classes import class_numbers, first_parting
from fademodes.errors import InvalidHistory, InvalidPosition, InvalidRows
from fademodes.grids import needed_grid
from fademodes.kinds import has_names, is_list, is_name, is_one_of, is_position
from fademodes.runs import ratio_state
from fademodes.starts import Reach


class Machine:
    """A list of rows: dicts from all letters to tuples (answer, next row)."""

    def __init__(self, rows):
        if not is_list(rows) or len(rows) == 0:
            raise InvalidRows(None)
        for position, row in enumerate(rows):
            if not _is_row(row, len(rows)) or sorted(row) != sorted(rows[0]):
                raise InvalidRows(position)
        self._rows = [{letter: row[letter] for letter in sorted(row)} for row in rows]

    def rows(self):
        """Return the list of the rows."""
        return [dict(row) for row in self._rows]

    def letters(self):
        """Return the sorted list of the letters."""
        return list(self._rows[0])

    def answers(self, history, row=0):
        """Return the list of the answers that a history gets from a row."""
        if not is_list(history):
            raise InvalidHistory(None)
        for position, letter in enumerate(history):
            if not is_one_of(letter, self._rows[0]):
                raise InvalidHistory(position)
        here = self._checked(row)
        found = []
        for letter in history:
            answer, here = self._rows[here][letter]
            found.append(answer)
        return found

    def parting(self, row, other):
        """Return the first of the shortest histories that get other last answers from two rows, or None."""
        one, second = self._checked(row), self._checked(other)
        answers, nexts = self._numbered()
        found = first_parting(answers, nexts, one, second)
        letters = self.letters()
        return None if found is None else [letters[letter] for letter in found]

    def reduced(self):
        """Return the least machine of row 0."""
        answers, nexts = self._numbered()
        return _least(self.letters(), answers, nexts)

    def _checked(self, row):
        if not is_position(row, len(self._rows)):
            raise InvalidPosition(row)
        return row

    def _numbered(self):
        """Return the answers and the next rows, row by row, letter by letter."""
        answers = [tuple([told[0] for told in row.values()]) for row in self._rows]
        nexts = [[told[1] for told in row.values()] for row in self._rows]
        return answers, nexts

    def __len__(self):
        return len(self._rows)

    def __eq__(self, other):
        return isinstance(other, Machine) and self._rows == other._rows


def least_machine(program, state):
    """Return the least machine of a state."""
    here = ratio_state(program, state)
    grid = needed_grid(program)
    reach = Reach(grid, [grid.cell_at(here)])
    answers, nexts = numbered_cells(grid, reach.found, reach.numbers)
    return _least(program.letters(), answers, nexts)


def numbered_cells(grid, found, numbers):
    """Return the answers and the next numbers of cells, cell by cell, letter by letter."""
    answers = [tuple([turn[1] for turn in grid.turns(cell)]) for cell in found]
    nexts = [[numbers[turn[0]] for turn in grid.turns(cell)] for cell in found]
    return answers, nexts


def _is_row(value, many):
    if not has_names(value) or len(value) == 0:
        return False
    return all([_is_told(told, many) for told in list(value.values())])


def _is_told(value, many):
    return isinstance(value, tuple) and len(value) == 2 and is_name(value[0]) and is_position(value[1], many)


def _least(letters, answers, nexts):
    """Return the machine of the classes that row 0 comes to, in the sequence in which they are met."""
    numbers = class_numbers(answers, nexts)
    met, rows = {numbers[0]: 0}, []
    waiting = [0]
    while len(rows) < len(waiting):
        here = waiting[len(rows)]
        row = {}
        for letter, told, led in zip(letters, answers[here], nexts[here]):
            if numbers[led] not in met:
                met[numbers[led]] = len(waiting)
                waiting.append(led)
            row[letter] = (told, met[numbers[led]])
        rows.append(row)
    return Machine(rows)
