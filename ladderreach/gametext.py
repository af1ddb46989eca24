"""Games as texts."""

from ladderreach.digits import is_number
from ladderreach.errors import BadLine
from ladderreach.games import Game


def format_game(game):
    """The written form of the game."""
    edges = [f"{source} {rank} {target}" for source, rank, target in game.edges]
    return "\n".join([f"game {game.height} {game.owners}", *edges])


def parse_game(text):
    """The game of which the text is the written form, with its edges in any order."""
    lines = text.split("\n")
    height, owners = _read_head(lines[0])
    edges = [_read_edge(index + 1, line) for index, line in enumerate(lines) if index > 0]
    return Game(height, owners, edges)


def _read_head(line):
    """The height and the owners in the first line."""
    parts = line.split(" ")
    if len(parts) != 3 or parts[0] != "game" or not is_number(parts[1]) or parts[2] == "":
        raise BadLine(1)
    return int(parts[1]), parts[2]


def _read_edge(number, line):
    """The edge in the line with this number."""
    parts = line.split(" ")
    if len(parts) != 3 or not all([is_number(part) for part in parts]):
        raise BadLine(number)
    source, rank, target = [int(part) for part in parts]
    return (source, rank, target)
