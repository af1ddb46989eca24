"""Webs: nodes and the ranked edges between them."""

from ladderreach.checks import check_count, check_height, check_node, check_nodes
from ladderreach.errors import BadEdge, BadSize, DuplicateEdge, TooLarge


class Web:
    """A height, 1 to 9 nodes and 0 to 63 edges."""

    MOST_NODES = 9
    MOST_EDGES = 63

    def __init__(self, height, size, edges):
        check_height(height)
        check_count(size, Web.MOST_NODES)
        if len(edges) > Web.MOST_EDGES:
            raise TooLarge(f"a web does not have {len(edges)} edges")
        _check_edges(height, size, edges)
        self.height = height
        self.size = size
        self.edges = tuple(sorted(edges))

    def __iter__(self):
        return iter(self.edges)

    def out(self, node):
        """The tuple of the edges out of the node, in ascending order."""
        check_node(self.size, node)
        return tuple([edge for edge in self.edges if edge[0] == node])

    def part(self, nodes):
        """The web of these nodes and of the edges between them."""
        if len(nodes) == 0:
            raise BadSize("a part has at least one node")
        check_nodes(self.size, nodes)
        kept = sorted(nodes)
        edges = [
            (kept.index(source), rank, kept.index(target))
            for source, rank, target in self.edges
            if source in kept and target in kept
        ]
        return Web(self.height, len(kept), edges)


def _check_edges(height, size, edges):
    """Raise the error of the first edge that is wrong."""
    seen = set()
    for index, edge in enumerate(edges):
        source, rank, target = edge
        if not (0 <= source < size and 0 <= target < size and 0 <= rank <= 2 * height):
            raise BadEdge(index)
        if edge in seen:
            raise DuplicateEdge(index)
        seen.add(edge)
