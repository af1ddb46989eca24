"""Placements: whether they belong to a ladder, and which nodes and edges they suit."""

from ladderreach.checks import check_same_height
from ladderreach.errors import BadPlacement


def step_word(entry):
    """The entry of a placement as it is written in a line."""
    return "off" if entry is None else str(entry)


def check_placement(game, ladder, placement):
    """Raise HeightMismatch, or BadPlacement for the least node whose entry is no step and not None."""
    check_same_height(game.height, ladder.height)
    for node, entry in enumerate(placement):
        if entry is not None and not 0 <= entry <= ladder.top:
            raise BadPlacement(node)


def is_allowed(ladder, placement, edge):
    """Whether the edge joins two nodes that are not off and is allowed between their steps."""
    source, rank, target = edge
    start = placement[source]
    end = placement[target]
    return start is not None and end is not None and ladder.allows(start, rank, end)


def is_fitting(game, ladder, placement, node):
    """Whether the node fits."""
    if placement[node] is None:
        return True
    good = [is_allowed(ladder, placement, edge) for edge in game.out(node)]
    return any(good) if game.owners[node] == "A" else all(good)
