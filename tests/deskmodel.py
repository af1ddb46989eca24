"""A slow model of a desk, and drawn deeds."""

from ladderreach.games import Game
from ladderreach.ladders import Ladder
from tests.helpers import node_fits, slow_climb, slow_lift


def slow_lifts(game, levels, start):
    """The placement that is reached from the start, and the list of the lifts."""
    placement, log = list(start), []
    while True:
        wrong = [node for node in range(game.size) if not node_fits(game, levels, placement, node)]
        if not wrong:
            return placement, log
        placement = slow_lift(game, levels, placement, wrong[0])
        log.append((wrong[0], placement[wrong[0]]))


def differences(before, after):
    return [(node, before[node], after[node]) for node in range(len(before)) if before[node] != after[node]]


class Model:
    """Everything is written down behind each deed: owners, edges, levels and placement."""

    def __init__(self, height, owners, edges, levels):
        self.height = height
        self.states = []
        self.at = 0
        placement, self.log = slow_lifts(Game(height, owners, edges), levels, [0] * len(owners))
        self.states = [(owners, tuple(sorted(edges)), tuple(levels), placement)]
        self.changes = []
        self.went_on = 0

    def game(self):
        owners, edges, _, _ = self.states[self.at]
        return Game(self.height, owners, edges)

    def ladder(self):
        return Ladder(self.height, self.states[self.at][2])

    def placement(self):
        return list(self.states[self.at][3])

    def depth(self):
        return self.at

    def can_redo(self):
        return self.at + 1 < len(self.states)

    def do(self, word, value):
        """Do the deed, or return the name and the attributes of its error."""
        error = self.fault(word, value)
        if error:
            return error
        if word in ("undo", "redo"):
            before = self.placement()
            self.at += 1 if word == "redo" else -1
            self.log, self.changes = [], differences(before, self.placement())
        else:
            self.change(word, value)
        return None

    def fault(self, word, value):
        owners, edges, _, _ = self.states[self.at]
        size, sources = len(owners), [edge[0] for edge in edges]
        if word == "put":
            if len(edges) >= 63:
                return "TooLarge", {}
            if not (0 <= value[0] < size and 0 <= value[1] <= 2 * self.height and 0 <= value[2] < size):
                return "BadEdge", {"index": len(edges)}
            if value in edges:
                return "DuplicateEdge", {"index": len(edges)}
        if word == "cut" and value not in edges:
            return "NoSuchEdge", {}
        if word == "cut" and sources.count(value[0]) == 1:
            return "DeadEnd", {"node": value[0]}
        if word == "give" and not 0 <= value < size:
            return "NoSuchNode", {"node": value}
        if word == "undo" and self.at == 0:
            return "NothingToUndo", {}
        if word == "redo" and not self.can_redo():
            return "NothingToRedo", {}
        return None

    def change(self, word, value):
        owners, edges, levels, before = self.states[self.at]
        harms = False
        if word == "put":
            harms = owners[value[0]] == "B"
            edges = tuple(sorted(edges + (value,)))
        elif word == "cut":
            harms = owners[value[0]] == "A"
            edges = tuple(edge for edge in edges if edge != value)
        elif word == "give":
            harms = owners[value] == "A"
            owners = owners[:value] + ("B" if harms else "A") + owners[value + 1:]
        else:
            levels = tuple(value)
        game = Game(self.height, owners, edges)
        self.went_on += harms
        placement, self.log = slow_lifts(game, levels, before if harms else [0] * len(owners))
        assert placement == slow_climb(game, levels)
        self.states = self.states[:self.at + 1] + [(owners, edges, levels, placement)]
        self.at += 1
        self.changes = differences(before, placement)


def draw_deed(rng, model, wrong=0.1):
    """The word of a deed and what it is called with; some deeds are wrong."""
    owners, edges, levels, _ = model.states[model.at]
    size = len(owners)
    word = rng.choice(("put", "put", "cut", "cut", "give", "use", "undo", "undo", "redo"))
    out = rng.random() < wrong
    if word == "put":
        edge = (rng.randrange(size), rng.randint(0, 2 * model.height), rng.randrange(size))
        if out:
            edge = rng.choice(((size, 0, 0), (-1, 0, 0), (0, -1, 0), (0, 2 * model.height + 1, 0), (0, 0, size),
                               (0, 0, -1), edges[0]))
        return word, edge
    if word == "cut":
        return word, (size, 0, 0) if out else rng.choice(edges)
    if word == "give":
        return word, rng.choice((-1, size)) if out else rng.randrange(size)
    if word == "use":
        return word, draw_levels(rng, model.height)
    return word, None


def draw_levels(rng, height):
    return tuple(rng.randint(1, height) for _ in range(rng.choice((0, 1, 2, 3, 5, 8))))
