"""Watchers: machines that read ranks."""

from ladderreach.checks import check_count, check_height, check_rank
from ladderreach.errors import BadMove, NoSuchState
from ladderreach.routes import way_round


class Watcher:
    """A height and, for each of 1 to 9 states, the next state or None for each rank."""

    MOST_STATES = 9

    def __init__(self, height, moves):
        check_height(height)
        check_count(len(moves), Watcher.MOST_STATES)
        for state, entries in enumerate(moves):
            if len(entries) != 2 * height + 1 or not all([_is_entry(len(moves), entry) for entry in entries]):
                raise BadMove(state)
        self.height = height
        self.size = len(moves)
        self.moves = tuple([tuple(given) for given in moves])

    def move(self, state, rank):
        """The next state, or None if the watcher goes off."""
        if not 0 <= state < self.size:
            raise NoSuchState(state)
        check_rank(self.height, rank)
        return self.moves[state][rank]


def watch(watcher, word):
    """The list with the state, or None, after each rank of the word."""
    state = 0
    states = []
    for rank in word:
        check_rank(watcher.height, rank)
        if state is not None:
            state = watcher.move(state, rank)
        states.append(state)
    return states


def false_win(watcher):
    """A stem and a cycle of ranks that the watcher reads for ever though B wins them, or None."""
    way = way_round(edges_of_moves(watcher), 0, 1)
    if way is None:
        return None
    stem, cycle = way
    return [edge[1] for edge in stem], [edge[1] for edge in cycle]


def edges_of_moves(watcher):
    """The moves that do not go off, as edges between the states."""
    return [
        (state, rank, end)
        for state, entries in enumerate(watcher.moves)
        for rank, end in enumerate(entries)
        if end is not None
    ]


def _is_entry(size, entry):
    """Whether the entry is None or one of this number of states."""
    return entry is None or 0 <= entry < size
