"""Row games: games that exactly the ladders that hold a row tell."""

from ladderreach.errors import TooLarge
from ladderreach.games import Game

_MOST_LEVELS = 8


def row_game(ladder):
    """The game of B whose nodes are the steps of the ladder."""
    if ladder.top > _MOST_LEVELS:
        raise TooLarge(f"a row of {ladder.top} levels has no row game")
    if ladder.top == 0:
        return Game(ladder.height, "B", [(0, 0, 0)])
    edges = []
    for step, level in enumerate(ladder.levels):
        edges.append((step, 2 * level, step + 1))
        edges.append((step + 1, 2 * level - 1, step))
    return Game(ladder.height, "B" * (ladder.top + 1), edges)
