"""Visits that a player can force."""

from ladderreach.checks import check_nodes


def force(game, player, targets):
    """For each node the least number of moves within which the player can force a target, or None."""
    check_nodes(game.size, targets)
    moves = [0 if node in targets else None for node in range(game.size)]
    reached = list(targets)
    count = 0
    while reached:
        count += 1
        # The nodes of one round are found before any of them gets its number.
        reached = [node for node in range(game.size) if moves[node] is None and _forces(game, player, node, moves)]
        for node in reached:
            moves[node] = count
    return moves


def _forces(game, player, node, moves):
    """Whether the player can force the next move from the node to lead to a node with a number."""
    numbered = [moves[edge[2]] is not None for edge in game.out(node)]
    if game.owners[node] == player:
        return any(numbered)
    return all(numbered)
