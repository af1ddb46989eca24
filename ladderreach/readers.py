"""Readers: they read ranks on a ladder."""

from ladderreach.checks import check_rank, check_step
from ladderreach.errors import BadSize


class Reader:
    """A step of a ladder that changes with each rank that is read."""

    def __init__(self, ladder, *, start=None):
        self._ladder = ladder
        self.step = ladder.top
        if start is not None:
            self.reset(start)

    def __call__(self, rank):
        check_rank(self._ladder.height, rank)
        if self.step is not None:
            self.step = self._ladder.greatest(self.step, rank)
        return self.step

    @property
    def off(self):
        """Whether the reader is off."""
        return self.step is None

    def reset(self, step):
        """Put the reader on the step."""
        check_step(self._ladder.top, step)
        self.step = step


def read(ladder, word, *, start=None):
    """The list with the step, or None, after each rank of the word."""
    reader = Reader(ladder, start=start)
    return [reader(rank) for rank in word]


def stays(ladder, stem, cycle):
    """Whether a reader from the top stays on while it reads the stem once and the cycle for ever."""
    if len(cycle) == 0:
        raise BadSize("a cycle has at least one rank")
    for rank in [*stem, *cycle]:
        check_rank(ladder.height, rank)
    reader = Reader(ladder)
    _read_on(reader, stem)
    seen = []
    # A reader that comes to the cycle on the same step once more goes on as before.
    while not reader.off and reader.step not in seen:
        seen.append(reader.step)
        _read_on(reader, cycle)
    return not reader.off


def _read_on(reader, word):
    """Let the reader read the word."""
    for rank in word:
        reader(rank)
