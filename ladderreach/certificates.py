"""Certificates: placements that show the winners edge by edge."""

from ladderreach.errors import BadHeight
from ladderreach.plans import edges_of_plan
from ladderreach.stands import stand
from ladderreach.webs import Web
from ladderreach.winners import solve


def certify(game):
    """A row and a placement for the nodes that A wins, then for those that B wins."""
    if game.height > 2:
        raise BadHeight("a certificate is made for the heights 1 and 2")
    row, placement = _side_of_a(game)
    other_row, other_placement = _side_of_a(game.mirrored())
    return row, placement, other_row, other_placement


def _side_of_a(game):
    """A row and a placement that has a step for exactly the nodes that A wins."""
    winners, plan = solve(game)
    nodes = [node for node in range(game.size) if winners[node] == "A"]
    placement = [None] * game.size
    if not nodes:
        return (), placement
    web = Web(game.height, game.size, edges_of_plan(game, "A", nodes, plan))
    row, steps = stand(web.part(nodes))
    for node, step in zip(nodes, steps):
        placement[node] = step
    return row, placement
