"""Cuts between numbers, the stretches between cuts, and ranges of numbers."""

from fademodes.errors import InvalidCut, InvalidRange, InvalidStretch
from fademodes.ratios import Ratio, is_number


def is_cut(value):
    """Tell whether any value is a cut: a tuple (number, is_above)."""
    return isinstance(value, tuple) and len(value) == 2 and is_number(value[0]) and isinstance(value[1], bool)


def is_stretch(value):
    """Tell whether any value is a stretch: a tuple of two cuts, the first ahead of the second."""
    if not isinstance(value, tuple) or len(value) != 2:
        return False
    return is_cut(value[0]) and is_cut(value[1]) and is_ahead(value[0], value[1])


def ratio_cut(cut):
    """Return a cut with its number as a Ratio."""
    if not is_cut(cut):
        raise InvalidCut(cut)
    return Ratio.of(cut[0]), cut[1]


def is_above(number, cut):
    """Tell whether a number is above a cut; if not, it is below."""
    ratio = Ratio.of(number)
    place, just_above = ratio_cut(cut)
    if just_above:
        return place.is_below(ratio)
    return not ratio.is_below(place)


def is_ahead(one, other):
    """Tell whether a cut is ahead of another one."""
    return precedes(ratio_cut(one), ratio_cut(other))


def precedes(one, other):
    """Tell whether a cut is ahead of another one, both known to be cuts with Ratios."""
    if other[1] and not one[1]:
        return not other[0].is_below(one[0])
    return one[0].is_below(other[0])


def count_ahead(cuts, cut):
    """Return how many cuts of a sequence are ahead of a cut, all with Ratios."""
    low, high = 0, len(cuts)
    while low < high:
        middle = (low + high) // 2
        if precedes(cuts[middle], cut):
            low = middle + 1
        else:
            high = middle
    return low


def count_not_behind(cuts, cut):
    """Return how many cuts of a sequence are not behind a cut, all with Ratios."""
    low, high = 0, len(cuts)
    while low < high:
        middle = (low + high) // 2
        if precedes(cut, cuts[middle]):
            high = middle
        else:
            low = middle + 1
    return low


def sorted_cuts(cuts):
    """Return a list of different cuts with Ratios in sequence."""
    found = []
    for cut in cuts:
        found.insert(count_ahead(found, cut), cut)
    return found


def cut_key(cut):
    """Return what tells a cut with a Ratio by its value, fit for a key of a dict."""
    return cut[0].top, cut[0].bottom, cut[1]


def is_within(number, stretch):
    """Tell whether a stretch contains a number."""
    ratio = Ratio.of(number)
    if not is_stretch(stretch):
        raise InvalidStretch(stretch)
    return is_above(ratio, stretch[0]) and not is_above(ratio, stretch[1])


def mark_of(stretch):
    """Return the mark of a stretch, a number in it."""
    if not is_stretch(stretch):
        raise InvalidStretch(stretch)
    low, low_is_out = ratio_cut(stretch[0])
    high, high_is_in = ratio_cut(stretch[1])
    if not low_is_out:
        return low
    if high_is_in:
        return high
    return (low + high).over(2)


class Range:
    """All numbers from a low to a high one."""

    def __init__(self, low, high):
        self._low = Ratio.of(low)
        self._high = Ratio.of(high)
        if self._high.is_below(self._low):
            raise InvalidRange((low, high))

    @property
    def low(self):
        """The least number of the range."""
        return self._low

    @property
    def high(self):
        """The greatest number of the range."""
        return self._high

    def outer(self):
        """Return the tuple of the outer cuts."""
        return (self._low, False), (self._high, True)

    def is_inner(self, cut):
        """Tell whether a cut lies between the outer cuts."""
        first, second = self.outer()
        return is_ahead(first, cut) and is_ahead(cut, second)

    def fit(self, cut):
        """Return the cut itself if it is inner, otherwise the outer cut on its side."""
        first, second = self.outer()
        if self.is_inner(cut):
            return ratio_cut(cut)
        return second if is_ahead(first, cut) else first

    def has_stretch(self, value):
        """Tell whether any value is a stretch that lies between the outer cuts."""
        if not is_stretch(value):
            return False
        first, second = self.outer()
        return not is_ahead(value[0], first) and not is_ahead(second, value[1])

    def __contains__(self, value):
        return is_number(value) and not self._high.is_below(value) and not Ratio.of(value).is_below(self._low)

    def __eq__(self, other):
        return isinstance(other, Range) and self._low == other._low and self._high == other._high

    def __repr__(self):
        return f"Range({self._low!r}, {self._high!r})"
