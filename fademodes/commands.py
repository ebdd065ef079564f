"""Commands of a desk: their forms, what they answer, and what they keep.

A SHELF is a dict from names to tuples (program, state). What does a command takes the shelf,
the name of the program, and the rest of the command, and returns a tuple (answer, kept): kept
is the tuple (program, state) that is to stand under the name, or None if nothing changes.
"""

from fademodes.alike import parting
from fademodes.ends import end_of
from fademodes.errors import NameTaken, UnknownLevel, UnknownMode, UnknownName
from fademodes.forgetting import forgotten_within
from fademodes.kinds import is_name, is_one_of
from fademodes.matters import mattering_cuts
from fademodes.needed import needed_cuts
from fademodes.runs import run
from fademodes.texts import cut_text, program_text, read_program, read_state, state_text

BAR = "|"
DONE = "done"


def _texts(words):
    """Return the texts between bars, or None if one of them is empty."""
    rows = [[]]
    for word in words:
        if word == BAR:
            rows.append([])
        else:
            rows[-1].append(word)
    return [" ".join(row) for row in rows] if all(rows) else None


def _two_texts(words):
    texts = _texts(words)
    return texts if texts is not None and len(texts) == 2 else None


def _one_text(words):
    return " ".join(words) if words else None


def _names(words):
    return words if words and all([is_name(word) for word in words]) else None


def _two_names(words):
    return _names(words) if len(words) == 2 else None


def _one_name(words):
    return _names(words) if len(words) == 1 else None


def _nothing(words):
    return None if words else words


def _put(shelf, name, rest):
    if name in shelf:
        raise NameTaken(name)
    program = read_program("".join([line + "\n" for line in rest]))
    ranges = program.levels()
    return DONE, (program, (program.modes()[0], {level: ranges[level].low for level in ranges}))


def _set(shelf, name, rest):
    program = shelf[name][0]
    return DONE, (program, read_state(program, rest))


def _do(shelf, name, rest):
    program, state = shelf[name]
    told = list(run(program, state, rest))
    return " ".join([answer for _, answer, _ in told]), (program, told[-1][0])


def _show(shelf, name, _):
    program, state = shelf[name]
    return state_text(program, state), None


def _text(shelf, name, _):
    lines = program_text(shelf[name][0]).split("\n")
    return " | ".join(lines[:-1]), None


def _cuts(shelf, name, rest):
    return _cuts_text(shelf[name][0], rest, needed_cuts), None


def _matters(shelf, name, rest):
    return _cuts_text(shelf[name][0], rest, mattering_cuts), None


def _cuts_text(program, rest, cuts_of_all):
    """Return the text of the cuts for a mode and a level, of those that a function returns for all."""
    mode, level = rest
    if mode not in program.modes():
        raise UnknownMode(mode)
    if level not in program.levels():
        raise UnknownLevel(level)
    texts = [cut_text(cut) for cut in cuts_of_all(program)[mode][level]]
    return ", ".join(texts) if texts else "-"


def _end(shelf, name, rest):
    program, state = shelf[name]
    level, side = rest
    return cut_text(end_of(program, [state], level, side)), None


def _part(shelf, name, rest):
    other = rest[0]
    if other not in shelf:
        raise UnknownName(other)
    program, state = shelf[name]
    other_program, other_state = shelf[other]
    history = parting(program, state, other_program, other_state)
    return "alike" if history is None else " ".join(history), None


def _forget(shelf, name, rest):
    program = shelf[name][0]
    many = forgotten_within(program, [read_state(program, text) for text in rest])
    return "never" if many is None else str(many), None


READERS = {
    "put": _texts,
    "set": _one_text,
    "do": _names,
    "show": _nothing,
    "text": _nothing,
    "cuts": _two_names,
    "matters": _two_names,
    "end": _two_names,
    "part": _one_name,
    "forget": _two_texts,
}
ACTS = {
    "put": _put,
    "set": _set,
    "do": _do,
    "show": _show,
    "text": _text,
    "cuts": _cuts,
    "matters": _matters,
    "end": _end,
    "part": _part,
    "forget": _forget,
}


def parsed(value):
    """Return the tuple (kind, name, rest) of any value that is a command, or None."""
    if not isinstance(value, str) or "\n" in value:
        return None
    words = value.split(" ")
    if "" in words or len(words) < 2 or not is_one_of(words[0], list(READERS)) or not is_name(words[1]):
        return None
    read = READERS[words[0]]
    rest = read(words[2:])
    return None if rest is None else (words[0], words[1], rest)


def performed(shelf, kind, name, rest):
    """Return what a command answers and keeps."""
    if kind != "put" and name not in shelf:
        raise UnknownName(name)
    act = ACTS[kind]
    return act(shelf, name, rest)
