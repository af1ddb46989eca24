"""The winners of games and their plans."""

from ladderreach.players import opponent, wanting


def solve(game):
    """The string of the winners and a plan that wins for both players."""
    solved = _solve_part(game.owners, list(range(game.size)), game.edges)
    winners = "".join([solved[node][0] for node in range(game.size)])
    return winners, [solved[node][1] for node in range(game.size)]


def nodes_of_a(game):
    """The list of the nodes that A wins."""
    winners, _ = solve(game)
    return [node for node, winner in enumerate(winners) if winner == "A"]


def _solve_part(owners, nodes, edges):
    """A dict from each of the nodes to its winner and the winner's edge, None if the loser moves."""
    if not nodes:
        return {}
    rank = max([edge[1] for edge in edges])
    player = wanting(rank)
    other = opponent(player)
    pulled = _pull(owners, nodes, edges, player, {}, rank)
    rest = [node for node in nodes if node not in pulled]
    smaller = [edge for edge in edges if edge[1] < rank]
    solved = _solve_part(owners, rest, _between(rest, smaller))
    won = {node: solved[node] for node in rest if solved[node][0] == other}
    if not won:
        return {**pulled, **solved}
    won = _pull(owners, nodes, edges, other, won, None)
    rest = [node for node in nodes if node not in won]
    return {**won, **_solve_part(owners, rest, _between(rest, edges))}


def _between(nodes, edges):
    """Those of the edges that lead from one of the nodes to one of the nodes."""
    return [edge for edge in edges if edge[0] in nodes and edge[2] in nodes]


def _pull(owners, nodes, edges, player, won, rank):
    """The dict won and, likewise, the nodes from which the player forces the rank or a node of it."""
    pulled = {node: won[node] for node in won}
    before = -1
    while before < len(pulled):
        before = len(pulled)
        for node in nodes:
            if node not in pulled:
                ways = [edge for edge in edges if edge[0] == node]
                good = [edge for edge in ways if edge[1] == rank or edge[2] in pulled]
                if owners[node] == player and good:
                    pulled[node] = (player, good[0])
                elif owners[node] != player and len(good) == len(ways):
                    pulled[node] = (player, None)
    return pulled
