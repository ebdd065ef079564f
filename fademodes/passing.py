"""Passing: the first of the shortest histories by which a level passes a cut."""

from fademodes.climbs import Climb
from fademodes.sides import beyond_in_stretch, farther, is_beyond


def is_passed(field, cut, wanted):
    """Tell whether some history passes a cut in one of the cells with these numbers."""
    found = Climb(field).ends
    return any([is_beyond(field.side, found[number], cut) for number in wanted])


def first_passing(field, cut, wanted, most):
    """Return a tuple (state, history) of a state of a start and the first history that passes a cut, or None.

    It is passed in one of the cells with these numbers, by at most so many letters.
    """
    goals = {number: True for number in wanted}
    layers = _layers(field, cut, goals, most)
    if layers is None:
        return None
    letters = _first_letters(field, layers, _needs(field, cut, layers, goals))
    return _first_state(field, cut, letters, goals), field.named(letters)


def _layers(field, cut, goals, most):
    """Return a list of dicts from cells to ends, one for each number of letters up to the fewest that pass a cut.

    Each has only the ends that are farther than with fewer letters: what others lead to, is
    led to by fewer letters, too. None if so many letters as there may be are too few.
    """
    found = {number: field.begins[number][0] for number in field.begins}
    layers = [dict(found)]
    while not any([is_beyond(field.side, end, cut) for number, end in layers[-1].items() if number in goals]):
        if len(layers) > most:
            return None
        layers.append(_farther_ends(field, found, layers[-1]))
        found.update(layers[-1])
    return layers


def _farther_ends(field, found, layer):
    """Return a dict from cells to the ends that a letter makes of those of a layer, if they are farther."""
    fresh = {}
    for here in layer:
        for way in field.ways[here]:
            end = field.end_behind(layer[here], way)
            known = fresh.get(way[0], found.get(way[0]))
            if known is None or is_beyond(field.side, end, known):
                fresh[way[0]] = end
    return fresh


def _needs(field, cut, layers, goals):
    """Return for each layer a dict from its cells to cuts: the numbers beyond these pass the cut in time."""
    found = [{number: cut for number in layers[-1] if number in goals}]
    for layer in reversed(layers[:-1]):
        found.append(_needs_ahead(field, layer, found[-1]))
    return found[::-1]


def _needs_ahead(field, layer, needs):
    """Return what the cells of a layer need, so that some letter leads to what is needed behind it."""
    found = {}
    for here in layer:
        for number, move in field.ways[here]:
            if number in needs:
                need = move.back(needs[number], field.held)
                if here not in found or is_beyond(field.side, found[here], need):
                    found[here] = need
    return found


def _first_letters(field, layers, needs):
    """Return the positions of the letters of the first of the shortest histories that pass the cut.

    All cells that the starts meet go along; at each letter only those stay that can still pass.
    """
    here = layers[0]
    letters = []
    for behind in needs[1:]:
        for letter in range(len(field.ways[0])):
            able = _able(field, here, letter, behind)
            if able:
                break
        here = able
        letters.append(letter)
    return letters


def _able(field, here, letter, needs):
    """Return the ends behind a letter in the cells in which they are beyond what is needed."""
    found = {}
    for number in here:
        way = field.ways[number][letter]
        end = field.end_behind(here[number], way)
        if way[0] in needs and is_beyond(field.side, end, needs[way[0]]):
            found[way[0]] = farther(field.side, end, found.get(way[0], end))
    return found


def _first_state(field, cut, letters, goals):
    """Return a state of a start from which these letters pass the cut."""
    for number in field.begins:
        end, position = field.begins[number]
        last, need = _led_back(field, cut, number, letters)
        if last in goals and is_beyond(field.side, end, need):
            stretch = beyond_in_stretch(field.side, field.level_part(position, number), need)
            return field.state(position, field.part_beyond(position, number, stretch))


def _led_back(field, cut, number, letters):
    """Return the cell to which letters lead from a cell, and the cut led back along them."""
    moves = []
    here = number
    for letter in letters:
        here, move = field.ways[here][letter]
        moves.append(move)
    need = cut
    for move in reversed(moves):
        need = move.back(need, field.held)
    return here, need
