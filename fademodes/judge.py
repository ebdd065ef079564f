"""The judge: claims about programs, certificates that they are true, and how these are checked."""

from fademodes.alike import alike_paper, is_alike_paper, parting
from fademodes.cells import cell_of
from fademodes.claims import has_form, is_count
from fademodes.ends import bound_table, ends, is_bound_table
from fademodes.errors import InvalidClaim, InvalidPaper
from fademodes.forgetting import cells_in_rounds, remembered_and_parted
from fademodes.grids import needed_grid
from fademodes.hands import choices, is_choices, is_ranks, ranks
from fademodes.matters import is_why_matters, why_matters
from fademodes.needed import is_why_needed, why_needed
from fademodes.partings import Partings
from fademodes.programs import Program
from fademodes.reaching import end_paper, paper_end
from fademodes.runs import is_history
from fademodes.sides import is_beyond
from fademodes.starts import cells_of_starts


def is_claim(value):
    """Tell whether any value is a claim."""
    return has_form(value)


def is_certificate(claim, value):
    """Tell whether any value is a certificate that a claim is true."""
    _check_claim(claim)
    shows = CHECKS[claim[0]]
    parts = claim[1:]
    return shows(*parts, value)


def certificate_of(claim):
    """Return a certificate that a claim is true, or None if it is not."""
    _check_claim(claim)
    for part in claim:
        if isinstance(part, Program):
            # There can be too many needed cuts.
            needed_grid(part)
    found_for = MAKERS[claim[0]]
    parts = claim[1:]
    return found_for(*parts)


def _check_claim(claim):
    if not has_form(claim):
        raise InvalidClaim(claim)


def _shows_alike(one, state, other, other_state, value):
    return is_alike_paper(one, state, other, other_state, value)


def _shows_unlike(one, state, other, other_state, value):
    if not is_history(one, value):
        return False
    return _answers_along(one, state, value) != _answers_along(other, other_state, value)


def _answers_along(program, state, history):
    """Return the answers to a history of any length, cell by cell."""
    path = needed_grid(program).path(cell_of(program, state), history)
    return [turn[1] for turn in path]


def _shows_beyond(program, starts, level, side, cut, value):
    try:
        end = paper_end(program, starts, level, side, value)[1]
    except InvalidPaper:
        return False
    return is_beyond(side, end, cut)


def _shows_never_beyond(program, starts, level, side, cut, value):
    if not is_bound_table(program, starts, level, side, value):
        return False
    return not any([is_beyond(side, bound, cut) for bound in list(value[1].values())])


def _shows_needed(program, mode, level, cut, value):
    return is_why_needed(program, mode, level, cut, value)


def _shows_matters(program, mode, level, cut, value):
    return is_why_matters(program, mode, level, cut, value)


def _shows_safe(program, state, hand, bad, value):
    return is_choices(program, hand, bad, value) and cell_of(program, state) in value


def _shows_forced(program, state, hand, bad, count, value):
    return is_ranks(program, hand, bad, value) and value.get(cell_of(program, state), count + 1) <= count


def _shows_forgotten(program, starts, count, value):
    grid = needed_grid(program)
    if not isinstance(value, dict) or not all([_is_pair(grid, pair) and is_count(value[pair]) for pair in value]):
        return False
    met = cells_of_starts(grid, starts)
    for at, cell in enumerate(met):
        if not all([value.get((cell, other), count + 1) <= count for other in met[at:]]):
            return False
    return all([_goes_down(grid, pair, value) for pair in value])


def _is_pair(grid, value):
    if not isinstance(value, tuple) or len(value) != 2:
        return False
    return grid.has_cell(value[0]) and grid.has_cell(value[1]) and value[0] <= value[1]


def _goes_down(grid, pair, value):
    """Tell whether each letter leads a pair to one with a lesser count, or keeps it at 0 with equal answers."""
    for turn, other in zip(grid.turns(pair[0]), grid.turns(pair[1])):
        led = min(turn[0], other[0]), max(turn[0], other[0])
        if led not in value:
            return False
        if value[pair] == 0 and (value[led] != 0 or turn[1] != other[1]):
            return False
        if value[pair] > 0 and value[led] >= value[pair]:
            return False
    return True


def _shows_remembered(program, starts, value):
    if not isinstance(value, tuple) or len(value) != 5 or not is_history(program, value[4]):
        return False
    pair = cells_in_rounds(program, starts, value[:4])
    return pair is not None and needed_grid(program).are_parted(pair[0], pair[1], value[4])


def _found_for_alike(one, state, other, other_state):
    return alike_paper(one, state, other, other_state)


def _found_for_unlike(one, state, other, other_state):
    return parting(one, state, other, other_state)


def _found_for_beyond(program, starts, level, side, cut):
    found = ends(program, starts, level, side)
    for cell in found:
        if is_beyond(side, found[cell], cut):
            return end_paper(program, starts, level, side, cell)
    return None


def _found_for_never_beyond(program, starts, level, side, cut):
    family, table = bound_table(program, starts, level, side)
    if any([is_beyond(side, bound, cut) for bound in list(table.values())]):
        return None
    return family, table


def _found_for_needed(program, mode, level, cut):
    return why_needed(program, mode, level, cut)


def _found_for_matters(program, mode, level, cut):
    return why_matters(program, mode, level, cut)


def _found_for_safe(program, state, hand, bad):
    found = choices(program, hand, bad)
    return found if cell_of(program, state) in found else None


def _found_for_forced(program, state, hand, bad, count):
    found = ranks(program, hand, bad)
    return found if found.get(cell_of(program, state), count + 1) <= count else None


def _found_for_forgotten(program, starts, count):
    found = Partings(program, starts).counts()
    counts = list(found.values())
    return None if None in counts or max(counts) > count else found


def _found_for_remembered(program, starts):
    return remembered_and_parted(program, starts)


CHECKS = {
    "alike": _shows_alike,
    "unlike": _shows_unlike,
    "beyond": _shows_beyond,
    "never beyond": _shows_never_beyond,
    "needed": _shows_needed,
    "matters": _shows_matters,
    "safe": _shows_safe,
    "forced": _shows_forced,
    "forgotten": _shows_forgotten,
    "remembered": _shows_remembered,
}
MAKERS = {
    "alike": _found_for_alike,
    "unlike": _found_for_unlike,
    "beyond": _found_for_beyond,
    "never beyond": _found_for_never_beyond,
    "needed": _found_for_needed,
    "matters": _found_for_matters,
    "safe": _found_for_safe,
    "forced": _found_for_forced,
    "forgotten": _found_for_forgotten,
    "remembered": _found_for_remembered,
}
