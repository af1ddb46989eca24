"""Rows on which webs stand."""

from ladderreach.cycles import components_of, odd_cycle


def stand(web):
    """A row on which the web stands and the steps of its nodes, or None if the web is not even."""
    if odd_cycle(web) is not None:
        return None
    row, steps = _stand_below(web.height, list(range(web.size)), web.edges)
    return tuple(row), [steps[node] for node in range(web.size)]


def _stand_below(level, nodes, edges):
    """A row of levels up to this one for some nodes of an even web, and a dict of their steps."""
    if level == 0:
        return [], {node: 0 for node in nodes}
    inner = [edge for edge in edges if edge[1] < 2 * level and edge[0] in nodes and edge[2] in nodes]
    row = []
    steps = {}
    for group in components_of(nodes, inner):
        if steps:
            row.append(level)
        group_row, group_steps = _stand_below(level - 1, group, inner)
        for node in group:
            steps[node] = len(row) + group_steps[node]
        row.extend(group_row)
    return row, steps
