"""Plans: which of them win, and how the walks go that follow them."""

from ladderreach.checks import check_node, check_nodes
from ladderreach.errors import BadPlan
from ladderreach.players import wanting
from ladderreach.routes import cycle_with


def judge(game, player, nodes, plan):
    """None if the plan wins for the player on the nodes, otherwise a tuple that says why not."""
    check_nodes(game.size, nodes)
    used = [node for node in sorted(nodes) if game.owners[node] == player]
    for node in used:
        if plan[node] is not None and plan[node] not in game.out(node):
            raise BadPlan(node)
    for node in used:
        if plan[node] is None:
            return ("missing", node)
    edges = edges_of_plan(game, player, nodes, plan)
    for edge in edges:
        if edge[2] not in nodes:
            return ("leak", edge)
    cycle = cycle_with(edges, 1 if player == "A" else 0)
    if cycle is not None:
        return ("cycle", cycle)
    return None


def edges_of_plan(game, player, nodes, plan):
    """The edges of the web of the plan, in ascending order."""
    return [
        edge
        for edge in game.edges
        if edge[0] in nodes and (game.owners[edge[0]] != player or plan[edge[0]] == edge)
    ]


def play(game, plan, start):
    """The winner, the stem and the cycle of the walk in which both players follow the plan."""
    check_node(game.size, start)
    visited = []
    walk = []
    node = start
    while node not in visited:
        if plan[node] not in game.out(node):
            raise BadPlan(node)
        visited.append(node)
        walk.append(plan[node])
        node = plan[node][2]
    first = visited.index(node)
    cycle = walk[first:]
    return wanting(max([edge[1] for edge in cycle])), walk[:first], cycle
