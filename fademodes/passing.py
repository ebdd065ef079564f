"""Passing: the first of the shortest histories by which a level passes a cut."""

from fademodes.climbs import Climb
from fademodes.errors import TooMany
from fademodes.sides import beyond_in_stretch, farther, is_beyond

MOST_LETTERS = 300


def first_passing(field, cut):
    """Return a tuple (state, history) of a state of a start and the first history that passes a cut, or None."""
    if not any([is_beyond(field.side, end, cut) for end in Climb(field).ends]):
        return None
    many = _fewest_letters(field, cut)
    needs = _needs(field, cut, many)
    letters = _first_letters(field, needs, many)
    return _first_state(field, cut, letters), field.named(letters)


def _fewest_letters(field, cut):
    """Return the length of the shortest histories that pass a cut.

    An end that is not farther than one that was there with fewer letters leads no farther.
    """
    found = {number: field.begins[number][0] for number in field.begins}
    changed = dict(found)
    for many in range(MOST_LETTERS + 1):
        if any([is_beyond(field.side, changed[number], cut) for number in changed]):
            return many
        changed = _farther_ends(field, found, changed)
        found.update(changed)
    raise TooMany("letters", MOST_LETTERS)


def _farther_ends(field, found, changed):
    """Return a dict from cells to the ends that a letter makes of the changed ones, if they are farther."""
    fresh = {}
    for here in changed:
        for way in field.ways[here]:
            end = field.end_behind(changed[here], way)
            known = fresh.get(way[0], found.get(way[0]))
            if known is None or is_beyond(field.side, end, known):
                fresh[way[0]] = end
    return fresh


def _needs(field, cut, many):
    """Return a list of dicts: for each number of letters up to this one, what a cell needs to pass a cut.

    A number that is beyond what its cell needs passes the cut within so many letters.
    """
    before = _ways_before(field)
    found = [{number: cut for number in range(len(field.ways))}]
    changed = found[0]
    for _ in range(many):
        changed = _nearer_needs(field, before, found[-1], changed)
        row = dict(found[-1])
        row.update(changed)
        found.append(row)
    return found


def _ways_before(field):
    """Return for each cell the list of tuples (number, move) of the ways that lead to it."""
    found = [[] for _ in field.ways]
    for here, ways in enumerate(field.ways):
        for number, move in ways:
            found[number].append((here, move))
    return found


def _nearer_needs(field, before, known, changed):
    fresh = {}
    for here in changed:
        for number, move in before[here]:
            need = move.back(changed[here], field.held)
            if is_beyond(field.side, fresh.get(number, known[number]), need):
                fresh[number] = need
    return fresh


def _first_letters(field, needs, many):
    """Return the positions of the letters of the first history of this length that passes the cut.

    All cells that the starts meet go along; at each letter only those stay that can still pass.
    """
    here = {number: field.begins[number][0] for number in field.begins}
    letters = []
    for left in reversed(range(many)):
        for letter in range(len(field.ways[0])):
            behind = _able(field, here, letter, needs[left])
            if behind:
                break
        here = behind
        letters.append(letter)
    return letters


def _able(field, here, letter, needs):
    """Return the ends behind a letter in the cells in which they are beyond what is needed."""
    found = {}
    for number in here:
        way = field.ways[number][letter]
        end = field.end_behind(here[number], way)
        if is_beyond(field.side, end, needs[way[0]]):
            found[way[0]] = farther(field.side, end, found.get(way[0], end))
    return found


def _first_state(field, cut, letters):
    """Return a state of a start from which these letters pass the cut."""
    for number in field.begins:
        end, position = field.begins[number]
        need = _led_back(field, cut, number, letters)
        if is_beyond(field.side, end, need):
            stretch = beyond_in_stretch(field.side, field.level_part(position, number), need)
            return field.state(position, field.part_beyond(position, number, stretch))


def _led_back(field, cut, number, letters):
    """Return the cut led back along letters from a cell."""
    moves = []
    here = number
    for letter in letters:
        here, move = field.ways[here][letter]
        moves.append(move)
    need = cut
    for move in reversed(moves):
        need = move.back(need, field.held)
    return need
