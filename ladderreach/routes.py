"""Paths and cycles among some edges."""


def path_between(edges, start, goal):
    """A path with the fewest edges from start to goal, as a list of edges, or None."""
    paths = {start: []}
    waiting = [start]
    while waiting:
        node = waiting.pop(0)
        for edge in edges:
            if edge[0] == node and edge[2] not in paths:
                paths[edge[2]] = paths[node] + [edge]
                waiting.append(edge[2])
    return paths.get(goal)


def cycle_with(edges, remainder):
    """A cycle whose greatest rank leaves this remainder when halved, as a list of edges, or None."""
    for edge in edges:
        source, rank, target = edge
        if rank % 2 == remainder:
            # A path with the fewest edges visits no node twice, so that closing it gives a cycle.
            path = path_between([other for other in edges if other[1] <= rank], target, source)
            if path is not None:
                return [edge, *path]
    return None
