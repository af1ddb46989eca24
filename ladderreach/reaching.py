"""The reach of ladders: up to which length they hold all rows."""

from ladderreach.errors import BadSize, TooLarge
from ladderreach.ladders import Ladder
from ladderreach.rowgames import row_game
from ladderreach.rowshapes import rows_of

# The item at the index of a height is the greatest count that lacking takes.
_MOST_COUNTS = (0, 25, 9, 6)
_MOST_LEVELS = 12


def lacking(ladder, count):
    """The first row with one level less than the count that the ladder does not hold, or None."""
    if count < 1:
        raise BadSize(f"the count {count} is less than 1")
    if count > _MOST_COUNTS[ladder.height]:
        raise TooLarge(f"the count {count} is too great for the height {ladder.height}")
    return _first_lacking(ladder, count - 1)


def reach(ladder):
    """The greatest number n such that the ladder holds every row with n - 1 levels."""
    if ladder.top > _MOST_LEVELS:
        raise TooLarge(f"the ladder has {ladder.top} levels")
    count = 1
    while _first_lacking(ladder, count) is None:
        count += 1
    return count


def failing_game(ladder):
    """The row game of the first row with as many levels as the reach that the ladder does not hold."""
    row = _first_lacking(ladder, reach(ladder))
    # A reach greater than 8 is the TooLarge of the row game.
    return row_game(Ladder(ladder.height, row))


def _first_lacking(ladder, count):
    """The first row of this number of levels that the ladder does not hold, or None."""
    for row in rows_of(ladder.height, count):
        if row not in ladder:
            return row
    return None
