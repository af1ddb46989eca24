"""Where A can keep a watcher from going off."""

from ladderreach.checks import check_same_height


def staying(game, watcher):
    """For each node the ascending list of the states from which A can keep the watcher on."""
    check_same_height(game.height, watcher.height)
    before = []
    states = [list(range(watcher.size)) for _ in range(game.size)]
    while states != before:
        before = states
        states = [_kept(game, watcher, node, before) for node in range(game.size)]
    return states


def watched_nodes(game, watcher):
    """The list of the nodes that the watcher tells."""
    return [node for node, states in enumerate(staying(game, watcher)) if 0 in states]


def _kept(game, watcher, node, states):
    """Those states of the node from which A can make the next move lead to one of these states."""
    return [state for state in states[node] if _goes_on(game, watcher, node, state, states)]


def _goes_on(game, watcher, node, state, states):
    """Whether A can make the next move from the node and the state lead to one of these states."""
    # A watcher that goes off is in the state None, which no node has.
    good = [watcher.move(state, rank) in states[target] for _, rank, target in game.out(node)]
    return any(good) if game.owners[node] == "A" else all(good)
