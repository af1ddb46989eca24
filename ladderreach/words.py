"""Words of ranks: words by which two ladders differ, and games with only one walk."""

from ladderreach.checks import check_height, check_rank, check_same_height
from ladderreach.errors import BadSize, TooLarge
from ladderreach.games import Game
from ladderreach.webs import Web


def parting_word(ladder, other):
    """The first word after which the reader of the other ladder is off and that of the ladder is not, or None."""
    check_same_height(ladder.height, other.height)
    waiting = [(ladder.top, other.top, [])]
    met = set()
    met.add((ladder.top, other.top))
    # Pairs of steps come up in the order of the first words that lead to them.
    while waiting:
        step, other_step, word = waiting.pop(0)
        for rank in range(2 * ladder.height + 1):
            end = ladder.greatest(step, rank)
            other_end = other.greatest(other_step, rank)
            if end is not None and other_end is None:
                return word + [rank]
            if end is not None and (end, other_end) not in met:
                met.add((end, other_end))
                waiting.append((end, other_end, word + [rank]))
    return None


def word_game(height, stem, cycle):
    """The game of B in which the only walk from node 0 reads the stem once and then the cycle for ever."""
    check_height(height)
    if len(cycle) == 0:
        raise BadSize("a cycle has at least one rank")
    word = [*stem, *cycle]
    if len(word) > Web.MOST_NODES:
        raise TooLarge(f"two words of {len(word)} ranks have no game")
    for rank in word:
        check_rank(height, rank)
    targets = list(range(1, len(word))) + [len(stem)]
    edges = [(node, rank, targets[node]) for node, rank in enumerate(word)]
    return Game(height, "B" * len(word), edges)
