"""Sides: what is said of upper ends, and, turned round, of lower ends."""

from fademodes.cuts import is_ahead
from fademodes.errors import InvalidSide
from fademodes.kinds import is_one_of

UPPER = "upper"
ENDS = (UPPER, "lower")


def check_side(value):
    """Raise InvalidSide for any value that is no side."""
    if not is_one_of(value, ENDS):
        raise InvalidSide(value)


def is_beyond(side, cut, other):
    """Tell whether a cut is behind another one, or, for lower ends, ahead of it."""
    return is_ahead(other, cut) if side == UPPER else is_ahead(cut, other)


def farther(side, cut, other):
    """Return the one of two cuts that is beyond the other one."""
    return other if is_beyond(side, other, cut) else cut


def end_of_stretch(side, stretch):
    """Return the end of the numbers of a stretch."""
    return stretch[1] if side == UPPER else stretch[0]


def beyond_in_stretch(side, stretch, cut):
    """Return the stretch of the numbers of a stretch that are beyond a cut."""
    if side == UPPER:
        return farther(side, stretch[0], cut), stretch[1]
    return stretch[0], farther(side, stretch[1], cut)


def image(side, move, end):
    """Return what a move makes of an end."""
    return move.upper_image(end) if side == UPPER else move.lower_image(end)


def limit(side, move, end):
    """Return the limit of an end under a move."""
    return move.upper_limit(end) if side == UPPER else move.lower_limit(end)
