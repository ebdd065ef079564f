"""Classes of rows that are answered alike, and the histories that part rows.

Rows are numbered from 0, letters too. `answers` is a list with a tuple of answers for each
row, `nexts` a list with a list of next rows for each row, both letter by letter.
"""

from collections import deque


def class_numbers(answers, nexts):
    """Return the list of the numbers of the classes of alike rows, row by row.

    Classes are split by the rows that lead into one of them, as long as one may still split
    another. Of two halves of one that was looked at whole, the lesser one says it all.
    """
    numbers, members = _first_classes(answers)
    before = _rows_before(nexts)
    waiting = deque(list(range(len(members))))
    is_waiting = [True] * len(members)
    while waiting:
        splitter = waiting.popleft()
        is_waiting[splitter] = False
        rows = list(members[splitter])
        for leading in before:
            halved = _halves(numbers, members, leading, rows)
            for number, halves in halved:
                fresh = _split(numbers, members, number, halves)
                is_waiting.append(True)
                if is_waiting[number] or len(members[fresh]) <= len(members[number]):
                    waiting.append(fresh)
                else:
                    is_waiting[fresh], is_waiting[number] = False, True
                    waiting.append(number)
    return numbers


def _first_classes(answers):
    """Return the classes of rows with equal answers: the numbers row by row, and the members."""
    seen, numbers, members = {}, [], []
    for row, told in enumerate(answers):
        if told not in seen:
            seen[told] = len(members)
            members.append([])
        numbers.append(seen[told])
        members[seen[told]].append(row)
    return numbers, members


def _rows_before(nexts):
    """Return for each letter a list of the lists of the rows that lead to each row."""
    found = [[[] for _ in nexts] for _ in nexts[0]]
    for row, leads in enumerate(nexts):
        for letter, led in enumerate(leads):
            found[letter][led].append(row)
    return found


def _halves(numbers, members, leading, rows):
    """Return a list of tuples (class, (rows that lead into these rows, the others)) for those that are split."""
    touched = {}
    for row in rows:
        for other in leading[row]:
            touched.setdefault(numbers[other], []).append(other)
    found = []
    for number in touched:
        if len(touched[number]) < len(members[number]):
            is_in = {row: True for row in touched[number]}
            found.append((number, (touched[number], [row for row in members[number] if row not in is_in])))
    return found


def _split(numbers, members, number, halves):
    """Make the first half of a class a class of its own, and return its number."""
    fresh = len(members)
    members.append(halves[0])
    members[number] = halves[1]
    for row in halves[0]:
        numbers[row] = fresh
    return fresh


def first_parting(answers, nexts, one, other):
    """Return the positions of the letters of the first of the shortest histories that part two rows, or None.

    Two rows that pairs looked at ahead show to be alike, if all of these are, are passed over:
    what parts them parts one of those, which come earlier.
    """
    heads = list(range(len(answers)))
    pairs, came = [(one, other)], [None]
    heads[_head(heads, one)] = _head(heads, other)
    at = 0
    while at < len(pairs):
        row, second = pairs[at]
        for letter in range(len(answers[row])):
            if answers[row][letter] != answers[second][letter]:
                return letters_behind(came, at) + [letter]
            pair = nexts[row][letter], nexts[second][letter]
            head, second_head = _head(heads, pair[0]), _head(heads, pair[1])
            if head != second_head:
                heads[head] = second_head
                pairs.append(pair)
                came.append((at, letter))
        at += 1
    return None


def _head(heads, row):
    """Return the row that stands for all that are joined with this one, and make the way to it short."""
    here = row
    while heads[here] != here:
        heads[here] = heads[heads[here]]
        here = heads[here]
    return here


def letters_behind(came, at):
    """Return the letters that lead to an entry, each entry telling the one ahead of it and a letter."""
    letters = []
    here = at
    while came[here] is not None:
        here, letter = came[here]
        letters.append(letter)
    return letters[::-1]


def longest_ways(leads):
    """Return for each row the greatest number of steps from it, or None if they can go on for ever.

    `leads` has a list of rows for each row. A row is reckoned once all those to which it leads
    are, so none that comes to a round ever is.
    """
    before = [[] for _ in leads]
    left = [len(behind) for behind in leads]
    for row, behind in enumerate(leads):
        for led in behind:
            before[led].append(row)
    longest = [None] * len(leads)
    waiting = [row for row, many in enumerate(left) if many == 0]
    while waiting:
        row = waiting.pop()
        longest[row] = max([longest[led] + 1 for led in leads[row]], default=0)
        for other in before[row]:
            left[other] -= 1
            if left[other] == 0:
                waiting.append(other)
    return longest
