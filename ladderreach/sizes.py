"""How many steps ladders need, and how many halving ladders have."""

from ladderreach.checks import check_count, check_height
from ladderreach.rowshapes import halving_row

_MOST_COUNT = 60


def floor_steps(height, count):
    """The number of steps that every ladder of this height has whose reach is at least the count."""
    check_height(height)
    check_count(count, _MOST_COUNT)
    if height == 1:
        return count
    if height == 2:
        return _floor_of_two(count)
    return sum([_floor_of_two(count // part) for part in range(1, count + 1)])


def halving_steps(height, count):
    """The number of steps of the halving ladder, even if that is too long for a ladder."""
    check_height(height)
    check_count(count, _MOST_COUNT)
    return len(halving_row(count, height)) + 1


def _floor_of_two(count):
    """The number of steps for height 2, 0 for the count 0."""
    if count == 0:
        return 0
    return count + _floor_of_two((count - 1) // 2) + _floor_of_two(count // 2)
