"""Games: webs whose nodes have owners and outgoing edges."""

from ladderreach.checks import check_node
from ladderreach.errors import BadOwners, DeadEnd, NoSuchEdge
from ladderreach.players import opponent
from ladderreach.webs import Web


class Game(Web):
    """A web in which each node has an owner and an outgoing edge."""

    def __init__(self, height, owners, edges):
        _check_owners(owners)
        super().__init__(height, len(owners), edges)
        self.owners = owners
        _check_dead_ends(self.size, self.edges)

    def __eq__(self, other):
        return (
            isinstance(other, Game)
            and self.height == other.height
            and self.owners == other.owners
            and self.edges == other.edges
        )

    def __iter__(self):
        return iter(self.edges)

    def out(self, node):
        """The tuple of the edges out of the node, in ascending order."""
        return super().out(node)

    def part(self, nodes):
        """The web of these nodes and of the edges between them."""
        return super().part(nodes)

    def with_edge(self, edge):
        """The game with one more edge."""
        return Game(self.height, self.owners, self.edges + (edge,))

    def without_edge(self, edge):
        """The game without one of its edges."""
        if edge not in self.edges:
            raise NoSuchEdge("the game does not have the edge")
        return Game(self.height, self.owners, [kept for kept in self.edges if kept != edge])

    def with_owner(self, node, owner):
        """The game in which the node has this owner."""
        check_node(self.size, node)
        if owner not in ("A", "B"):
            raise BadOwners("an owner is A or B")
        owners = self.owners[:node] + owner + self.owners[node + 1:]
        return Game(self.height, owners, self.edges)

    def mirrored(self):
        """The game with the owners exchanged and ranks and height greater by 1."""
        owners = "".join([opponent(owner) for owner in self.owners])
        return _one_higher(self, owners, 1)

    def raised(self):
        """The game with ranks greater by 2 and height greater by 1."""
        return _one_higher(self, self.owners, 2)


def _check_owners(owners):
    """Raise BadOwners if the owners are not 1 to 9 letters A and B."""
    if not 1 <= len(owners) <= Web.MOST_NODES:
        raise BadOwners(f"a game does not have {len(owners)} owners")
    if any([owner not in ("A", "B") for owner in owners]):
        raise BadOwners("an owner is A or B")


def _check_dead_ends(size, edges):
    """Raise DeadEnd for the least node without an outgoing edge."""
    sources = [edge[0] for edge in edges]
    for node in range(size):
        if node not in sources:
            raise DeadEnd(node)


def _one_higher(game, owners, more):
    """The game with these owners, greater ranks and the next height (a BadHeight for height 3)."""
    edges = [(source, rank + more, target) for source, rank, target in game.edges]
    return Game(game.height + 1, owners, edges)
