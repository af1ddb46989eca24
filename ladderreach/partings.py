"""Rows by which two ladders differ."""

from ladderreach.checks import check_same_height
from ladderreach.errors import TooLarge
from ladderreach.rowshapes import rows_up_to

_MOST_LEVELS = 6


def compare(ladder, other):
    """Whether the ladder is the "same" as the other, holds "more" or "less", or they stand "apart"."""
    check_same_height(ladder.height, other.height)
    if ladder == other:
        return "same"
    if other.levels in ladder:
        return "more"
    if ladder.levels in other:
        return "less"
    return "apart"


def parting_row(ladder, other):
    """The first row that the ladder holds and the other does not, or None."""
    check_same_height(ladder.height, other.height)
    _check_short(ladder)
    # A ladder holds no row that is longer than its own, and it holds that one.
    for row in rows_up_to(ladder.height, ladder.top):
        if row in ladder and row not in other:
            return row
    return None


def alike_up_to(ladder, other):
    """The greatest number of nodes up to which both tell the same in all games, None if they are equal."""
    check_same_height(ladder.height, other.height)
    _check_short(ladder)
    _check_short(other)
    if ladder == other:
        return None
    rows = [parting_row(ladder, other), parting_row(other, ladder)]
    return min([len(row) for row in rows if row is not None])


def _check_short(ladder):
    """Raise TooLarge if the ladder is too long to go through the rows that it holds."""
    if ladder.top > _MOST_LEVELS:
        raise TooLarge(f"the ladder has {ladder.top} levels")
