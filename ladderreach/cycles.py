"""Odd cycles and components of webs."""

from ladderreach.routes import cycle_with, path_between


def odd_cycle(web):
    """An odd cycle as a list of edges, or None if the web is even."""
    return cycle_with(web.edges, 1)


def components(web):
    """The components of the web, as lists of nodes; edges only lead to components further in front."""
    return components_of(list(range(web.size)), web.edges)


def components_of(nodes, edges):
    """The components of these nodes, in ascending order, under these edges between them."""
    waiting = _groups(nodes, edges)
    ordered = []
    while waiting:
        listed = [node for group in ordered for node in group]
        free = [group for group in waiting if _leads_only_to(group + listed, group, edges)]
        # The groups stand in the order of their least nodes.
        ordered.append(free[0])
        waiting.remove(free[0])
    return ordered


def _groups(nodes, edges):
    """The components in the order of their least nodes."""
    groups = []
    grouped = []
    for node in nodes:
        if node not in grouped:
            group = [other for other in nodes if _joined(edges, node, other)]
            groups.append(group)
            grouped.extend(group)
    return groups


def _joined(edges, one, other):
    """Whether each of the two nodes can be reached from the other."""
    return path_between(edges, one, other) is not None and path_between(edges, other, one) is not None


def _leads_only_to(targets, group, edges):
    """Whether all edges out of the group lead to one of the targets."""
    return all([edge[2] in targets for edge in edges if edge[0] in group])
