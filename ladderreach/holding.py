"""The steps by which a ladder holds a row."""

from ladderreach.checks import check_row
from ladderreach.ladders import Ladder
from ladderreach.marks import last_marks


def ends(ladder, row):
    """The list of the steps that can be the last one when the ladder holds the row."""
    check_row(ladder.height, row, Ladder.MOST_LEVELS)
    return last_marks(ladder.levels, row)


def hold(ladder, row):
    """The list of the least steps by which the ladder holds the row, or None."""
    check_row(ladder.height, row, Ladder.MOST_LEVELS)
    marks = _marks_from_the_back(ladder, row)
    if not marks[0]:
        return None
    steps = [marks[0][0]]
    for level, marked in zip(row, marks[1:]):
        steps.append(_next_step(ladder, steps[-1], level, marked))
    return steps


def _marks_from_the_back(ladder, row):
    """For each index of the row, and for its end, the steps from which the rest of it can be held."""
    steps = list(range(ladder.top + 1))
    marks = [steps]
    for level in reversed(row):
        marked = marks[-1]
        marks.append([step for step in steps if _next_step(ladder, step, level, marked) is not None])
    return marks[::-1]


def _next_step(ladder, start, level, marked):
    """The least marked step above the start whose gap to it is the level, or None."""
    for step in marked:
        if step > start and ladder.gap(start, step) == level:
            return step
    return None
