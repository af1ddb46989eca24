"""Paths and cycles among some edges."""


def paths_from(edges, start):
    """For each node that can be reached a path with the fewest edges from the start, as a list of edges."""
    paths = {start: []}
    waiting = [start]
    while waiting:
        node = waiting.pop(0)
        for edge in edges:
            if edge[0] == node and edge[2] not in paths:
                paths[edge[2]] = paths[node] + [edge]
                waiting.append(edge[2])
    return paths


def path_between(edges, start, goal):
    """A path with the fewest edges from start to goal, as a list of edges, or None."""
    return paths_from(edges, start).get(goal)


def cycle_with(edges, remainder):
    """A cycle whose greatest rank leaves this remainder when halved, as a list of edges, or None."""
    for edge in edges:
        source, rank, target = edge
        if rank % 2 == remainder:
            # A path with the fewest edges visits no node twice, so that closing it gives a cycle.
            path = path_between([other for other in edges if other[1] <= rank], target, source)
            if path is not None:
                return [edge, *path]
    return None


def way_round(edges, start, remainder):
    """A path from the start and such a cycle that begins where the path ends, or None if none can be reached."""
    paths = paths_from(edges, start)
    cycle = cycle_with([edge for edge in edges if edge[0] in paths], remainder)
    if cycle is None:
        return None
    # By the shortest path no node is visited twice before the cycle has come round.
    lengths = [len(paths[edge[0]]) for edge in cycle]
    first = lengths.index(min(lengths))
    return paths[cycle[first][0]], cycle[first:] + cycle[:first]
