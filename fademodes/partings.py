"""Partings: the pairs of different cells to which histories lead two states of some starts.

Cells are told by their numbers, letters by their positions, pairs by their places in the list
of all of them. Two cells are APART if they are not alike.
"""

from fademodes.classes import class_numbers, first_parting, longest_ways
from fademodes.errors import TooMany
from fademodes.grids import needed_grid
from fademodes.machines import numbered_cells
from fademodes.starts import reach_of

MOST_PAIRS = 20000


class Partings:
    """All these pairs, and for how many letters they can stay apart."""

    def __init__(self, program, starts):
        grid = needed_grid(program)
        reach = reach_of(grid, starts)
        self._reach = reach
        self._letters = program.letters()
        self._answers, self._nexts = numbered_cells(grid, reach.found, reach.numbers)
        self._classes = class_numbers(self._answers, self._nexts)
        self.found = []
        self._places = {}
        many = len(reach.met())
        for number in range(many):
            for other in range(number):
                self._add((other, number))
        self._many_first = len(self.found)
        self._go_on()
        self._longest = longest_ways([self._apart_behind(pair) for pair in self.found])

    def _add(self, pair):
        """Add a pair of different cells if it is new."""
        if pair[0] == pair[1] or pair in self._places:
            return
        self._places[pair] = len(self.found)
        self.found.append(pair)
        if len(self.found) > MOST_PAIRS:
            raise TooMany("pairs", MOST_PAIRS)

    def _go_on(self):
        at = 0
        while at < len(self.found):
            for pair in self._pairs_behind(self.found[at]):
                self._add(pair)
            at += 1

    def _pairs_behind(self, pair):
        """Return the pairs to which the letters lead a pair, the lesser number first."""
        one, other = self._nexts[pair[0]], self._nexts[pair[1]]
        return [(min(led, second), max(led, second)) for led, second in zip(one, other)]

    def _is_apart(self, pair):
        return self._classes[pair[0]] != self._classes[pair[1]]

    def _apart_behind(self, pair):
        """Return the places of the pairs that are apart to which the letters lead a pair."""
        if not self._is_apart(pair):
            return []
        return [self._places[led] for led in self._pairs_behind(pair) if self._is_apart(led)]

    def are_apart(self, cell, other):
        """Tell whether two cells that are come to are not alike."""
        return self._is_apart((self._reach.numbers[cell], self._reach.numbers[other]))

    def pair_of_cells(self, at):
        """Return the two cells of a pair."""
        one, other = self.found[at]
        return self._reach.found[one], self._reach.found[other]

    def letters_apart(self, at):
        """Return the least number of letters behind which a pair is no longer apart, or None."""
        if not self._is_apart(self.found[at]):
            return 0
        return None if self._longest[at] is None else self._longest[at] + 1

    def counts(self):
        """Return the dict from all pairs of cells, the lesser one first, to their counts.

        Each cell that is come to is paired with itself, too.
        """
        found = {(cell, cell): 0 for cell in self._reach.found}
        for at in range(len(self.found)):
            one, other = self.pair_of_cells(at)
            found[min(one, other), max(one, other)] = self.letters_apart(at)
        return {pair: found[pair] for pair in sorted(found)}

    def longest_first(self):
        """Return the place of that pair of the starts that stays apart for the most letters, or None without pairs."""
        best = None
        for at in range(self._many_first):
            many = self.letters_apart(at)
            if many is None:
                return at
            if best is None or many > self.letters_apart(best):
                best = at
        return best

    def way_apart(self, at):
        """Return a history, of one letter less than a pair stays apart, behind which it is still apart."""
        letters = []
        here = at
        while self.letters_apart(here) > 1:
            letter, here = self._next_apart(here)
            letters.append(letter)
        return self._named(letters)

    def ways_round(self, at):
        """Return for a pair that stays apart for ever histories `ahead`, `round` and `parting`.

        `ahead` leads it to a pair that `round` leads to itself, and that `parting` parts. Cells
        that have changed places come back to their own when they go round once more.
        """
        seen, letters = {}, []
        here = at
        while here not in seen:
            seen[here] = len(letters)
            letter, here = self._next_apart(here)
            letters.append(letter)
        ahead, turn = letters[:seen[here]], letters[seen[here]:]
        one, other = self.found[here]
        if self._behind(one, turn) != one:
            turn = turn + turn
        parted = first_parting(self._answers, self._nexts, one, other)
        return self._named(ahead), self._named(turn), self._named(parted)

    def _next_apart(self, at):
        """Return the first letter behind which a pair stays apart for as long as it can, and the pair there."""
        many = self.letters_apart(at)
        wanted = None if many is None else many - 1
        for letter, pair in enumerate(self._pairs_behind(self.found[at])):
            if pair in self._places and self.letters_apart(self._places[pair]) == wanted:
                return letter, self._places[pair]

    def _behind(self, number, letters):
        """Return the cell to which letters lead a cell."""
        here = number
        for letter in letters:
            here = self._nexts[here][letter]
        return here

    def _named(self, letters):
        """Return the names of letters that are told by their positions."""
        return [self._letters[letter] for letter in letters]
