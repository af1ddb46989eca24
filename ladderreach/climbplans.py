"""Plans and edges that a placement gives."""

from ladderreach.climbing import misfits
from ladderreach.errors import Misfit
from ladderreach.placements import check_placement, is_allowed


def plan_of(game, ladder, placement):
    """The plan of A that takes the least allowed edge at each node that is not off."""
    wrong = misfits(game, ladder, placement)
    if wrong:
        raise Misfit(wrong[0])
    plan = [None] * game.size
    for edge in reversed(game.edges):
        # The least edge of a node comes last here, so that it stays.
        if game.owners[edge[0]] == "A" and is_allowed(ladder, placement, edge):
            plan[edge[0]] = edge
    return plan


def allowed_edges(game, ladder, placement):
    """The list of the edges between nodes that are not off that are allowed between their steps."""
    check_placement(game, ladder, placement)
    return [edge for edge in game.edges if is_allowed(ladder, placement, edge)]
