"""Games put together from games."""

from ladderreach.checks import check_node, check_same_height
from ladderreach.errors import TooLarge
from ladderreach.games import Game
from ladderreach.webs import Web


def side_by_side(first, *others):
    """The game of these games next to each other."""
    games = [first, *others]
    _check_heights(games)
    return _joined("", [], games)


def either(first, *others):
    """The game whose node 0 lets A choose one of the positions."""
    return _choice("A", [first, *others])


def all_of(first, *others):
    """The game whose node 0 lets B choose one of the positions."""
    return _choice("B", [first, *others])


def _choice(owner, positions):
    """The game whose node 0 lets its owner choose one of the positions."""
    games = [game for game, _ in positions]
    _check_heights(games)
    for game, node in positions:
        check_node(game.size, node)
    rank = 2 * games[0].height
    starts = _starts(1, games)
    nodes = [node for _, node in positions]
    ways = [(0, rank, start + node) for start, node in zip(starts, nodes)]
    return _joined(owner, ways, games)


def _joined(head, ways, games):
    """The game that begins with the owners head and the edges ways and goes on with the games."""
    size = len(head) + sum([game.size for game in games])
    if size > Web.MOST_NODES:
        raise TooLarge(f"a game does not have {size} nodes")
    edges = list(ways)
    for start, game in zip(_starts(len(head), games), games):
        edges.extend([(source + start, rank, target + start) for source, rank, target in game.edges])
    owners = head + "".join([game.owners for game in games])
    return Game(games[0].height, owners, edges)


def _starts(start, games):
    """The number that node 0 of each game gets, if the first game begins with start."""
    starts = []
    for game in games:
        starts.append(start)
        start += game.size
    return starts


def _check_heights(games):
    """Raise HeightMismatch if the heights of the games differ."""
    for game in games:
        check_same_height(games[0].height, game.height)
