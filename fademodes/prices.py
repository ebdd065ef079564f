"""Prices: the cheapest history to an answer, the longest one without answers, and shares in rounds."""

from heapq import heappop, heappush

from fademodes.classes import letters_behind, longest_ways
from fademodes.errors import InvalidName, InvalidPrices
from fademodes.grids import needed_grid
from fademodes.hands import check_names
from fademodes.kinds import is_integer, is_name
from fademodes.machines import numbered_cells
from fademodes.means import Valley
from fademodes.ratios import Ratio
from fademodes.runs import ratio_state
from fademodes.starts import Reach, cells_of_starts, check_starts, met_state


def cheapest_to(program, starts, answer, prices):
    """Return a tuple (price, state, history) of a cheapest history whose last letter gets an answer, or None."""
    check_starts(program, starts)
    if not is_name(answer):
        raise InvalidName(answer)
    _check_prices(program, prices)
    grid = needed_grid(program)
    met = cells_of_starts(grid, starts)
    reach = Reach(grid, met)
    answers, nexts = numbered_cells(grid, reach.found, reach.numbers)
    letters = program.letters()
    paid, came = _cheapest_ways(nexts, len(met), [prices[letter] for letter in letters])
    best = None
    for row, told in enumerate(answers):
        for letter, name in enumerate(told):
            price = paid[row] + prices[letters[letter]]
            if name == answer and (best is None or price < best[0]):
                best = (price, row, letter)
    if best is None:
        return None
    price, row, letter = best
    history = [letters[at] for at in letters_behind(came, row) + [letter]]
    return price, met_state(grid, starts, reach.found[_first_row(came, row)]), history


def _check_prices(program, value):
    letters = program.letters()
    if not isinstance(value, dict) or len(value) != len(letters):
        raise InvalidPrices(value)
    for letter in letters:
        if letter not in value or not is_integer(value[letter]) or value[letter] < 0:
            raise InvalidPrices(value)


def _cheapest_ways(nexts, many, prices):
    """Return the least prices of histories from the first so many rows to all rows, and how they come about.

    The latter is a list of tuples (row ahead, position of the letter), with None for the first rows.
    """
    paid = [0 if row < many else None for row in range(len(nexts))]
    came = [None] * len(nexts)
    queue = [(0, row) for row in range(many)]
    while queue:
        price, row = heappop(queue)
        if price == paid[row]:
            for letter, behind in enumerate(nexts[row]):
                total = price + prices[letter]
                if paid[behind] is None or total < paid[behind]:
                    paid[behind], came[behind] = total, (row, letter)
                    heappush(queue, (total, behind))
    return paid, came


def _first_row(came, row):
    """Return the row from which the way to a row begins."""
    here = row
    while came[here] is not None:
        here = came[here][0]
    return here


def longest_without(program, starts, answers):
    """Return the greatest number of letters of histories none of whose answers is listed, or None."""
    check_starts(program, starts)
    check_names(answers)
    grid = needed_grid(program)
    met = cells_of_starts(grid, starts)
    reach = Reach(grid, met)
    told, nexts = numbered_cells(grid, reach.found, reach.numbers)
    leads = []
    for names, row in zip(told, nexts):
        leads.append([behind for name, behind in zip(names, row) if name not in answers])
    longest = longest_ways(leads)[:len(met)]
    return None if None in longest else max(longest)


def shares(program, state, answer):
    """Return a tuple (least, greatest) of the shares of an answer in all rounds of all cells that are come to."""
    here = ratio_state(program, state)
    if not is_name(answer):
        raise InvalidName(answer)
    grid = needed_grid(program)
    reach = Reach(grid, [grid.cell_at(here)])
    answers, nexts = numbered_cells(grid, reach.found, reach.numbers)
    is_told = [[1 if name == answer else 0 for name in told] for told in answers]
    others = [[1 - weight for weight in row] for row in is_told]
    return Valley(is_told, nexts).least_mean(), Ratio(1) - Valley(others, nexts).least_mean()
