"""Solvers: each tells, in its own way, nodes of games that A wins."""

from ladderreach.asking import asked
from ladderreach.checks import check_height, check_same_height
from ladderreach.climbing import told_nodes
from ladderreach.staying import watched_nodes
from ladderreach.winners import nodes_of_a


class Solver:
    """A height and the number of games so far; it tells no node."""

    def __init__(self, height):
        check_height(height)
        self.height = height
        self.games = 0

    def tells(self, game):
        """False for each node."""
        check_same_height(self.height, game.height)
        return self._counted(game, [])

    def _counted(self, game, nodes):
        """True for these nodes and False for the others; the game is counted."""
        self.games += 1
        return [node in nodes for node in range(game.size)]


class Taker(Solver):
    """It tells the nodes that A wins."""

    def __init__(self, height):
        super().__init__(height)

    def tells(self, game):
        """True for the nodes that A wins."""
        check_same_height(self.height, game.height)
        return self._counted(game, nodes_of_a(game))


class Climber(Solver):
    """It tells the nodes that a ladder tells."""

    def __init__(self, ladder):
        super().__init__(ladder.height)
        self._ladder = ladder

    def tells(self, game):
        """True for the nodes that the ladder tells."""
        return self._counted(game, told_nodes(game, self._ladder))


class Holder(Solver):
    """It tells the nodes whose ask a ladder meets."""

    def __init__(self, ladder):
        super().__init__(ladder.height)
        self._ladder = ladder

    def tells(self, game):
        """True for the nodes whose ask the ladder meets."""
        check_same_height(self.height, game.height)
        return self._counted(game, [node for node in range(game.size) if self._ladder in asked(game, node)])


class Follower(Solver):
    """It tells the nodes that a watcher tells."""

    def __init__(self, watcher):
        super().__init__(watcher.height)
        self._watcher = watcher

    def tells(self, game):
        """True for the nodes that the watcher tells."""
        return self._counted(game, watched_nodes(game, self._watcher))
