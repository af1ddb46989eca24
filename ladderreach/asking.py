"""What games ask of ladders, and games that ask it."""

from ladderreach.asks import Ask
from ladderreach.checks import check_nodes, check_same_height
from ladderreach.climbing import told_nodes
from ladderreach.combine import either
from ladderreach.errors import TooLarge
from ladderreach.games import Game
from ladderreach.ladders import Ladder
from ladderreach.rowgames import row_game
from ladderreach.rowshapes import rows_up_to


def asked(game, node, *others):
    """The ask that a ladder meets exactly if it tells all these nodes of the game."""
    if game.size > (4 if game.height == 3 else 5):
        raise TooLarge(f"the game has {game.size} nodes")
    nodes = [node, *others]
    check_nodes(game.size, nodes)
    # No least row has as many levels as the game has nodes.
    rows = rows_up_to(game.height, game.size - 1)
    return Ask(game.height, [row for row in rows if _tells(game, row, nodes)])


def ask_game(ask):
    """A game whose node 0 has this ask."""
    if not ask.rows:
        return Game(ask.height, "B", [(0, 1, 0)])
    positions = [(row_game(Ladder(ask.height, row)), 0) for row in ask.rows]
    if len(positions) == 1:
        game, _ = positions[0]
        return game
    return either(*positions)


def covers(first, second):
    """None if every ladder that tells the first position tells the second, else the first row that does not."""
    game, node = first
    other_game, other_node = second
    check_same_height(game.height, other_game.height)
    ask = asked(game, node)
    other_ask = asked(other_game, other_node)
    return ask.within(other_ask)


def _tells(game, row, nodes):
    """Whether the ladder with this row tells all the nodes."""
    told = told_nodes(game, Ladder(game.height, row))
    return all([node in told for node in nodes])
