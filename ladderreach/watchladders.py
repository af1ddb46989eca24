"""Ladders that do what watchers do, and watchers that do what ladders do."""

from ladderreach.errors import TooLarge
from ladderreach.ladders import Ladder
from ladderreach.routes import paths_from
from ladderreach.stands import stand
from ladderreach.watchers import Watcher, edges_of_moves
from ladderreach.webs import Web


def ladder_of(watcher):
    """A ladder that tells what the watcher tells and the steps of its states, or None for a false win."""
    edges = edges_of_moves(watcher)
    reachable = sorted(paths_from(edges, 0))
    # The web is even exactly if the watcher has no false win.
    standing = stand(Web(watcher.height, watcher.size, edges).part(reachable))
    if standing is None:
        return None
    row, found = standing
    steps = [None] * watcher.size
    for state, step in zip(reachable, found):
        steps[state] = step
    return Ladder(watcher.height, row), steps


def watcher_of(ladder):
    """The watcher whose state k does what a reader on the step with the number of the top minus k does."""
    if ladder.top >= Watcher.MOST_STATES:
        raise TooLarge(f"a ladder of {ladder.top} levels has no watcher")
    ranks = range(2 * ladder.height + 1)
    steps = range(ladder.top, -1, -1)
    return Watcher(ladder.height, [[_state_after(ladder, step, rank) for rank in ranks] for step in steps])


def _state_after(ladder, step, rank):
    """The state for the step to which a reader goes, None if it goes off."""
    end = ladder.greatest(step, rank)
    return None if end is None else ladder.top - end
