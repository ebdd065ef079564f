"""Means: the round with the least mean weight in a graph each of whose rows leads on.

Rows and letters are numbered from 0; `weights` and `nexts` tell, row by row, the weights of
the letters and the rows to which they lead.
"""

from fademodes.ratios import Ratio


class Valley:
    """A letter chosen in each row, and a value for each row: what one would pay on the way.

    From each row the chosen letters lead to a round. The least mean of all rounds that were met
    is paid back at each letter; as long as a row does better with another letter, that is
    chosen. If none does, no round has a lesser mean.
    """

    def __init__(self, weights, nexts):
        self._weights = weights
        self._nexts = nexts
        self._letters = [row.index(min(row)) for row in weights]
        self._values = [0] * len(nexts)
        self._top, self._bottom = self._mean(self._chosen_rounds()[0])

    def least_mean(self):
        """Return the least mean weight of all rounds."""
        self._settle()
        while self._is_improved():
            self._settle()
        return Ratio(self._top, self._bottom)

    def _settle(self):
        """Find the least mean of the chosen rounds, and give each row the value to which its letters lead."""
        rounds = self._chosen_rounds()
        for rows in rounds:
            top, bottom = self._mean(rows)
            if top * self._bottom < self._top * bottom:
                self._top, self._bottom = top, bottom
        self._spread([rows[0] for rows in rounds])

    def _chosen_rounds(self):
        """Return the lists of the rows of the rounds to which the chosen letters lead."""
        met_by = [None] * len(self._nexts)
        rounds = []
        for first in range(len(met_by)):
            here, way = first, []
            while met_by[here] is None:
                met_by[here] = first
                way.append(here)
                here = self._next(here)
            if met_by[here] == first and way:
                rounds.append(way[way.index(here):])
        return rounds

    def _next(self, row):
        return self._nexts[row][self._letters[row]]

    def _mean(self, rows):
        return sum([self._weights[row][self._letters[row]] for row in rows]), len(rows)

    def _cost(self, row, letter):
        """Return what a letter costs, as a multiple of one over the bottom of the mean."""
        return self._weights[row][letter] * self._bottom - self._top

    def _spread(self, roots):
        """Work out the values of all rows from those of one row of each round."""
        is_done = [False] * len(self._nexts)
        for root in roots:
            is_done[root] = True
        for first in range(len(is_done)):
            here, way = first, []
            while not is_done[here]:
                is_done[here] = True
                way.append(here)
                here = self._next(here)
            for row in reversed(way):
                self._values[row] = self._values[self._next(row)] + self._cost(row, self._letters[row])

    def _is_improved(self):
        """Choose the letters that do better, and tell whether there was one."""
        is_better = False
        for row, led in enumerate(self._nexts):
            for letter, behind in enumerate(led):
                value = self._values[behind] + self._cost(row, letter)
                if value < self._values[row]:
                    self._values[row] = value
                    self._letters[row] = letter
                    is_better = True
        return is_better
