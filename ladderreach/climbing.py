"""Climbing: nodes are lifted until all of them fit."""

from ladderreach.checks import check_node
from ladderreach.placements import check_placement, is_fitting


def misfits(game, ladder, placement):
    """The list of the nodes that do not fit."""
    check_placement(game, ladder, placement)
    return [node for node in range(game.size) if not is_fitting(game, ladder, placement, node)]


def lift(game, ladder, placement, node):
    """The placement in which the node is lifted to the least step at which it fits, or off."""
    check_placement(game, ladder, placement)
    check_node(game.size, node)
    lifted = list(placement)
    while not is_fitting(game, ladder, lifted, node):
        # A node that is off fits, so that this ends.
        lifted[node] = lifted[node] + 1 if lifted[node] < ladder.top else None
    return lifted


def lifts(game, ladder, *, start=None):
    """Yield the node and its new entry for each lift of the least node that does not fit."""
    placement = [0] * game.size if start is None else list(start)
    waiting = misfits(game, ladder, placement)
    while waiting:
        node = waiting[0]
        placement = lift(game, ladder, placement, node)
        yield (node, placement[node])
        waiting = misfits(game, ladder, placement)


def climb(game, ladder):
    """The climbed placement: the least one that fits."""
    placement = [0] * game.size
    for node, entry in lifts(game, ladder):
        placement[node] = entry
    return placement


def told_nodes(game, ladder):
    """The list of the nodes that are not off in the climbed placement."""
    return [node for node, entry in enumerate(climb(game, ladder)) if entry is not None]
