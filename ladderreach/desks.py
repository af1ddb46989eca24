"""Desks: a game and a ladder that are changed step by step."""

from ladderreach.checks import check_node, check_same_height
from ladderreach.climbing import lifts
from ladderreach.commands import read_command
from ladderreach.errors import BadLine, LadderreachError, NothingToRedo, NothingToUndo, ScriptError
from ladderreach.ladders import Ladder
from ladderreach.laddertext import format_ladder
from ladderreach.placements import step_word
from ladderreach.players import opponent


class Desk:
    """A game and a ladder of the same height, with deeds that change them and can be taken back."""

    def __init__(self, game, ladder):
        check_same_height(game.height, ladder.height)
        self.game = game
        self._ladder = ladder
        # The lists of a placement and of a log are never changed, only replaced.
        self._placement, self._log = _climbed(game, ladder, [0] * game.size)
        self._changes = []
        # What was there before each deed, and what was there when a deed was taken back.
        self._past = []
        self._undone = []

    @property
    def ladder(self):
        """The present ladder."""
        return self._ladder

    @property
    def placement(self):
        """The climbed placement of the present game on the present ladder."""
        return list(self._placement)

    @property
    def log(self):
        """The list of the lifts of the last deed."""
        return list(self._log)

    @property
    def changes(self):
        """The list of the nodes whose entries the last call changed, each with both entries."""
        return list(self._changes)

    @property
    def depth(self):
        """The number of deeds that can be taken back."""
        return len(self._past)

    def put(self, edge):
        """Put in an edge."""
        game = self.game.with_edge(edge)
        self._do(game, self._ladder, self.game.owners[edge[0]] == "B")

    def cut(self, edge):
        """Cut an edge."""
        game = self.game.without_edge(edge)
        self._do(game, self._ladder, self.game.owners[edge[0]] == "A")

    def give(self, node):
        """Give the node to the other player."""
        check_node(self.game.size, node)
        owner = self.game.owners[node]
        self._do(self.game.with_owner(node, opponent(owner)), self._ladder, owner == "A")

    def use(self, ladder):
        """Use another ladder."""
        check_same_height(self.game.height, ladder.height)
        self._do(self.game, ladder, False)

    def undo(self):
        """Take back the last deed that has not been taken back."""
        if not self._past:
            raise NothingToUndo("no deed can be taken back")
        self._undone.append(self._moment())
        self._go_to(self._past.pop())

    def redo(self):
        """Do the deed that was taken back last once more."""
        if not self._undone:
            raise NothingToRedo("no deed has been taken back")
        self._past.append(self._moment())
        self._go_to(self._undone.pop())

    def run(self, lines):
        """Carry out the commands in the lines and return the list of the output lines, or change nothing."""
        before = self._all_of_it()
        output = []
        try:
            for index, line in enumerate(lines):
                output.extend(self._obey(index + 1, line))
        except (BadLine, ScriptError):
            self._put_back(before)
            raise
        return output

    def _do(self, game, ladder, harms):
        """Do a deed that leads to this game and this ladder."""
        start = self._placement if harms else [0] * game.size
        placement, log = _climbed(game, ladder, start)
        self._past.append(self._moment())
        self._undone = []
        self._go_to((game, ladder, placement))
        self._log = log

    def _moment(self):
        """What undo and redo bring back."""
        return (self.game, self._ladder, self._placement)

    def _go_to(self, moment):
        """Change to such a moment without any lift."""
        before = self._placement
        self.game, self._ladder, self._placement = moment
        self._changes = _differences(before, self._placement)
        self._log = []

    def _all_of_it(self):
        """All that a desk holds."""
        return (self._moment(), self._log, self._changes, list(self._past), list(self._undone))

    def _put_back(self, before):
        """Make the desk what it was when it held all this."""
        moment, self._log, self._changes, self._past, self._undone = before
        self.game, self._ladder, self._placement = moment

    def _obey(self, number, line):
        """Carry out the command in the line with this number and return the list of its output lines."""
        word, numbers = read_command(number, line)
        try:
            return self._carry_out(word, numbers)
        except LadderreachError as error:
            raise ScriptError(number, type(error).__name__) from error

    def _carry_out(self, word, numbers):
        """Carry out the command and return the list of its output lines."""
        if word == "put":
            self.put(tuple(numbers))
        elif word == "cut":
            self.cut(tuple(numbers))
        elif word == "give":
            self.give(numbers[0])
        elif word == "use":
            self.use(Ladder(self.game.height, numbers))
        elif word == "undo":
            self.undo()
        elif word == "redo":
            self.redo()
        else:
            return [self._shown(word, numbers)]
        return []

    def _shown(self, word, numbers):
        """The output line of a command that changes nothing."""
        if word == "levels":
            return format_ladder(self._ladder)
        if word == "told":
            told = [str(node) for node, entry in enumerate(self._placement) if entry is not None]
            return " ".join(["told", *told])
        node = numbers[0]
        check_node(self.game.size, node)
        return f"{node} {self.game.owners[node]} {step_word(self._placement[node])}"


def _climbed(game, ladder, start):
    """The placement to which the lifts lead from the start, and the list of the lifts."""
    log = list(lifts(game, ladder, start=start))
    placement = list(start)
    for node, entry in log:
        placement[node] = entry
    return placement, log


def _differences(before, after):
    """The list of the nodes whose entries differ, each with both entries."""
    return [(node, old, new) for node, (old, new) in enumerate(zip(before, after)) if old != new]
