"""Games: where a hand and the world choose letters, and the world wants a bad answer."""

from collections import deque


def forced_ranks(are_hands, leads):
    """Return for each row the least number of letters within which a bad answer is forced, or None.

    `are_hands` tells for each row whether the hand chooses there, `leads` has a list of the next
    rows, letter by letter, with None for a bad answer. Rows are met in the sequence of their
    numbers of letters, and a row of the hand is forced once all of its letters are.
    """
    before = [[] for _ in leads]
    left, ranks = [], []
    for row, (is_hand, led) in enumerate(zip(are_hands, leads)):
        left.append((len(led) if is_hand else 1) - led.count(None))
        ranks.append(1 if left[row] <= 0 else None)
        for behind in led:
            if behind is not None:
                before[behind].append(row)
    waiting = deque([row for row, rank in enumerate(ranks) if rank is not None])
    while waiting:
        here = waiting.popleft()
        for row in before[here]:
            left[row] -= 1
            if ranks[row] is None and left[row] <= 0:
                ranks[row] = ranks[here] + 1
                waiting.append(row)
    return ranks


def safe_letter(led, ranks):
    """Return the position of the first letter that gets no bad answer and leads to a row that is not forced."""
    for letter, behind in enumerate(led):
        if behind is not None and ranks[behind] is None:
            return letter
