"""Guesses: what a watcher who hears all answers to a history can take for the cell behind it.

Cells are told by their numbers. GROUPS are a list of sorted tuples of numbers: the cells to
which a history leads those states that get the same answers, for all the answers that it can get.
"""


def groups_behind(groups, letter, answers, nexts):
    """Return the groups behind one more letter, each once."""
    found = {}
    for group in groups:
        parts = {}
        for number in group:
            parts.setdefault(answers[number][letter], {})[nexts[number][letter]] = True
        for part in parts.values():
            found[tuple(sorted(part))] = True
    return sorted(found)


def pairs_key(groups):
    """Return what tells the set of all pairs of numbers of one group, fit for a key of a dict.

    Other groups can make the same pairs, so it is told by all numbers that a number is paired
    with, those that are paired alike being put together.
    """
    within = {}
    for at, group in enumerate(groups):
        for number in group:
            within.setdefault(number, []).append(at)
    alike = {}
    for number in sorted(within):
        alike.setdefault(tuple(within[number]), []).append(number)
    paired = {}
    for among in alike:
        others = {number: True for at in among for number in groups[at]}
        paired.setdefault(tuple(sorted(others)), []).extend(alike[among])
    return tuple(sorted([(others, tuple(sorted(paired[others]))) for others in paired]))
