"""Ladders: rows of levels with steps between them."""

from ladderreach.checks import check_count, check_height, check_rank, check_row, check_same_height, check_step
from ladderreach.errors import NoSuchLevel
from ladderreach.marks import holds
from ladderreach.rowshapes import halving_row, plain_row


class Ladder:
    """A height and a row of 0 to 24 levels."""

    MOST_LEVELS = 24

    def __init__(self, height, levels):
        check_height(height)
        check_row(height, levels, Ladder.MOST_LEVELS)
        self.height = height
        self.levels = tuple(levels)
        self.top = len(levels)
        # The item at index k counts the levels above k; ranks 2k and 2k + 1 compare these counts.
        self._counts = tuple([_counts_from(level, levels) for level in range(1, height + 2)])

    def __eq__(self, other):
        return isinstance(other, Ladder) and self.height == other.height and self.levels == other.levels

    def __iter__(self):
        return iter(self.levels)

    def __add__(self, other):
        check_same_height(self.height, other.height)
        return Ladder(self.height, self.levels + (self.height,) + other.levels)

    def __contains__(self, row):
        check_row(self.height, row, Ladder.MOST_LEVELS)
        return holds(self.levels, row)

    @classmethod
    def halving(cls, height, count):
        """The ladder with the halving row for the count and the height."""
        _check_shape(height, count)
        return cls(height, halving_row(count, height))

    @classmethod
    def plain(cls, height, count):
        """The ladder with the plain row for the count and the height."""
        _check_shape(height, count)
        return cls(height, plain_row(count, height))

    def gap(self, one, other):
        """The greatest level between two steps, 0 if they are the same."""
        check_step(self.top, one)
        check_step(self.top, other)
        return max(self.levels[min(one, other):max(one, other)], default=0)

    def high(self, level, step):
        """The number of levels below the step that are at least this level."""
        if not 1 <= level <= self.height + 1:
            raise NoSuchLevel(level)
        check_step(self.top, step)
        return self._counts[level - 1][step]

    def allows(self, source, rank, target):
        """Whether an edge of the rank is allowed from one step to the other."""
        check_step(self.top, source)
        check_rank(self.height, rank)
        check_step(self.top, target)
        return self._lets(source, rank, target)

    def least(self, rank, target):
        """The least step from which the rank is allowed to the target, or None."""
        check_rank(self.height, rank)
        check_step(self.top, target)
        for step in range(self.top + 1):
            if self._lets(step, rank, target):
                return step
        return None

    def greatest(self, source, rank):
        """The greatest step to which the rank is allowed from the source, or None."""
        check_step(self.top, source)
        check_rank(self.height, rank)
        for step in reversed(range(self.top + 1)):
            if self._lets(source, rank, step):
                return step
        return None

    def pieces(self):
        """The list of the stretches of the row between the levels that equal the height."""
        found = []
        start = 0
        for index, level in enumerate(self.levels):
            if level == self.height:
                found.append(self.levels[start:index])
                start = index + 1
        found.append(self.levels[start:])
        return found

    def flipped(self):
        """The ladder with the reversed row."""
        return Ladder(self.height, self.levels[::-1])

    def _lets(self, source, rank, target):
        """What allows returns, for steps and a rank that exist."""
        counts = self._counts[rank // 2]
        if rank % 2 == 0:
            return counts[source] >= counts[target]
        return counts[source] > counts[target]


def _counts_from(level, levels):
    """For each step the number of levels below it that are at least this level."""
    counts = [0]
    for other in levels:
        counts.append(counts[-1] + (1 if other >= level else 0))
    return tuple(counts)


def _check_shape(height, count):
    """Raise the errors of a height and a count for which a row is built."""
    check_height(height)
    check_count(count, Ladder.MOST_LEVELS + 1)
