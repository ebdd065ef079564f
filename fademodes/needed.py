"""Needed cuts: the least closed family of cuts, and why a cut is needed."""

from collections import deque

from fademodes.cuts import cut_key, is_ahead, is_cut, ratio_cut, sorted_cuts
from fademodes.errors import InvalidCut, TooMany, UnknownLevel, UnknownMode
from fademodes.kinds import is_list, is_one_of, is_position
from fademodes.moves import WayBack, move_key
from fademodes.programs import check_program, condition_cut

MOST_CUTS = 600


def needed_cuts(program):
    """Return the dict from the modes to dicts from the levels to the lists of their needed cuts."""
    check_program(program)
    reasons = _reasons_of(program)
    found = {mode: {level: [] for level in program.levels()} for mode in program.modes()}
    for key in reasons:
        found[key[0]][key[1]].append(reasons[key][0])
    return {mode: {level: sorted_cuts(found[mode][level]) for level in found[mode]} for mode in found}


def is_closed(program, family):
    """Tell whether any value is a closed family of cuts of the program."""
    check_program(program)
    if not _is_family(program, family):
        return False
    keys = {mode: {level: _keys_of(family[mode][level]) for level in family[mode]} for mode in family}
    return _has_conditions(program, keys) and _has_all_led_back(program, family, keys)


def why_needed(program, mode, level, cut):
    """Return a tuple (places, place, position) that shows why a cut is needed, or None if it is not."""
    check_mode_level_cut(program, mode, level, cut)
    reasons = _reasons_of(program)
    key = _key_of(mode, level, ratio_cut(cut))
    if key not in reasons:
        return None
    path = []
    _, place, position, behind = reasons[key]
    while behind is not None:
        path.append(place)
        _, place, position, behind = reasons[behind]
    return path, place, position


def is_why_needed(program, mode, level, cut, value):
    """Tell whether any value is a tuple that shows why a cut is needed."""
    check_mode_level_cut(program, mode, level, cut)
    if not isinstance(value, tuple) or len(value) != 3:
        return False
    path, place, position = value
    if not is_list(path) or not _is_path(program, mode, [*path, place]):
        return False
    when = program.rule(place).when()
    if not is_position(position, len(when)) or when[position][0] != level:
        return False
    led = _led_back(program, level, path, condition_cut(when[position]))
    return led is not None and cut_key(led) == cut_key(ratio_cut(cut))


def check_mode_level_cut(program, mode, level, cut):
    """Raise the error for the first of these values that is not valid."""
    check_program(program)
    if not is_one_of(mode, program.modes()):
        raise UnknownMode(mode)
    if not is_one_of(level, program.levels()):
        raise UnknownLevel(level)
    if not is_cut(cut):
        raise InvalidCut(cut)


def _key_of(mode, level, cut):
    return (mode, level) + cut_key(cut)


def _reasons_of(program):
    """Return a dict from the keys of the needed cuts to tuples (cut, place, position, behind).

    The cut is that of the condition at this position, behind being None; or what the
    rule at this place leads back from the needed cut with the key `behind`.
    """
    found = program.kept("reasons")
    if found is None:
        found = _reasons_of_conditions(program)
        _lead_back(program, found)
        program.keep("reasons", found)
    return found


def _reasons_of_conditions(program):
    found = {}
    for place, position, level, cut in _inner_conditions(program):
        found.setdefault(_key_of(place[0], level, cut), (cut, place, position, None))
    _check_many(found)
    return found


def _inner_conditions(program):
    """Return a list of tuples (place, position, level, cut) of the conditions whose cuts are inner."""
    ranges = program.levels()
    found = []
    for place in program.places():
        for position, condition in enumerate(program.rule(place).when()):
            level, cut = condition[0], condition_cut(condition)
            if ranges[level].is_inner(cut):
                found.append((place, position, level, cut))
    return found


def _lead_back(program, found):
    """Add to the reasons what is led back, until nothing new comes.

    There can be very many needed cuts, so the limit is looked at on the way.
    """
    leading = _ways_into(program)
    waiting = deque(list(found))
    while waiting:
        behind = waiting.popleft()
        goal, level = behind[0], behind[1]
        for place, way in leading[goal, level]:
            cut = way.led_inside(found[behind][0])
            key = None if cut is None else _key_of(place[0], level, cut)
            if key is not None and key not in found:
                found[key] = (cut, place, None, behind)
                waiting.append(key)
                _check_many(found)


def _check_many(found):
    if len(found) > MOST_CUTS:
        raise TooMany("cuts", MOST_CUTS)


def _ways_into(program):
    """Return a dict from pairs (goal, level) to lists of tuples (place, way back).

    Of the rules of one mode that move the level alike, one is enough.
    """
    ranges = program.levels()
    found = {(mode, level): {} for mode in program.modes() for level in ranges}
    for place in program.places():
        rows = [(level, program.move_of(place, level)) for level in ranges]
        for level, move in rows:
            ways = found[program.rule(place).goal, level]
            key = place[0], move_key(move)
            if key not in ways:
                ways[key] = (place, WayBack(move, ranges[level]))
    return {pair: list(found[pair].values()) for pair in found}


def _is_family(program, value):
    """Tell whether any value has the form of a family of inner cuts."""
    if not _has_keys(value, program.modes()):
        return False
    ranges = program.levels()
    for mode in program.modes():
        if not _has_keys(value[mode], list(ranges)):
            return False
        if not all([_is_sequence(ranges[level], value[mode][level]) for level in ranges]):
            return False
    return True


def _has_keys(value, names):
    return isinstance(value, dict) and len(value) == len(names) and all([name in value for name in names])


def _is_sequence(held, value):
    """Tell whether any value is a list of inner cuts of a range, each ahead of the next one."""
    if not is_list(value) or not all([is_cut(cut) and held.is_inner(cut) for cut in value]):
        return False
    return all([is_ahead(value[at], value[at + 1]) for at in range(len(value) - 1)])


def _keys_of(cuts):
    return {cut_key(ratio_cut(cut)): True for cut in cuts}


def _has_conditions(program, keys):
    wanted = _inner_conditions(program)
    return all([cut_key(cut) in keys[place[0]][level] for place, _, level, cut in wanted])


def _has_all_led_back(program, family, keys):
    leading = _ways_into(program)
    for goal, level in leading:
        cuts = [ratio_cut(cut) for cut in family[goal][level]]
        for place, way in leading[goal, level]:
            led = [way.led_inside(cut) for cut in cuts]
            if not all([cut is None or cut_key(cut) in keys[place[0]][level] for cut in led]):
                return False
    return True


def _is_path(program, mode, path):
    """Tell whether these are places, the first one of the mode, each of the goal of the one ahead."""
    here = mode
    for place in path:
        if not program.has_place(place) or place[0] != here:
            return False
        here = program.rule(place).goal
    return True


def _led_back(program, level, path, cut):
    """Return a cut led back from the last place of a path to the first one, or None if it is not inner each time."""
    held = program.levels()[level]
    led = cut if held.is_inner(cut) else None
    for place in reversed(path):
        if led is None:
            return None
        led = program.move_of(place, level).back(led, held)
        if not held.is_inner(led):
            led = None
    return led
