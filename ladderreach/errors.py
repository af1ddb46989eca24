"""The errors that the package raises."""


class LadderreachError(ValueError):
    """The base class of all errors that the package raises."""


class BadHeight(LadderreachError):
    """A height is not 1, 2 or 3, or not one that the call takes."""


class BadSize(LadderreachError):
    """A size or a count is out of range."""


class TooLarge(LadderreachError):
    """Something has, or would have, more parts than the call takes."""


class HeightMismatch(LadderreachError):
    """Two things that belong together have different heights."""


class ShapeMismatch(LadderreachError):
    """A machine does not have the letters or the answers of a monitor."""


class GameError(LadderreachError):
    """The base class of the errors of webs and games."""


class BadOwners(GameError):
    """The owners are not 1 to 9 letters A and B."""


class BadEdge(GameError):
    """An edge has an end that is no node, or a rank out of range."""

    def __init__(self, index):
        super().__init__(f"the edge at index {index} does not fit")
        self.index = index


class DuplicateEdge(GameError):
    """An edge is equal to one before it."""

    def __init__(self, index):
        super().__init__(f"the edge at index {index} occurs before")
        self.index = index


class DeadEnd(GameError):
    """A node of a game has no outgoing edge."""

    def __init__(self, node):
        super().__init__(f"the node {node} has no outgoing edge")
        self.node = node


class NoSuchEdge(GameError):
    """A game does not have an edge."""


class BadLevel(LadderreachError):
    """A level of a row is out of range."""

    def __init__(self, index):
        super().__init__(f"the level at index {index} is out of range")
        self.index = index


class OutOfRange(LadderreachError):
    """The base class of the errors of numbers that name nothing."""


class NoSuchNode(OutOfRange):
    """A node does not exist."""

    def __init__(self, node):
        super().__init__(f"there is no node {node}")
        self.node = node


class NoSuchStep(OutOfRange):
    """A step of a ladder does not exist."""

    def __init__(self, step):
        super().__init__(f"there is no step {step}")
        self.step = step


class NoSuchRank(OutOfRange):
    """A rank is out of range."""

    def __init__(self, rank):
        super().__init__(f"there is no rank {rank}")
        self.rank = rank


class NoSuchLevel(OutOfRange):
    """A level is out of range."""

    def __init__(self, level):
        super().__init__(f"there is no level {level}")
        self.level = level


class NoSuchState(OutOfRange):
    """A state of a watcher does not exist."""

    def __init__(self, state):
        super().__init__(f"there is no state {state}")
        self.state = state


class NoSuchLetter(OutOfRange):
    """A letter is out of range."""

    def __init__(self, letter):
        super().__init__(f"there is no letter {letter}")
        self.letter = letter


class BadPlan(LadderreachError):
    """An entry of a plan is no edge out of its node."""

    def __init__(self, node):
        super().__init__(f"the plan is wrong at node {node}")
        self.node = node


class BadPlacement(LadderreachError):
    """An entry of a placement is no step of the ladder."""

    def __init__(self, node):
        super().__init__(f"the placement is wrong at node {node}")
        self.node = node


class Misfit(LadderreachError):
    """A node does not fit."""

    def __init__(self, node):
        super().__init__(f"the node {node} does not fit")
        self.node = node


class BadMove(LadderreachError):
    """The moves of a state or of a memory are wrong."""

    def __init__(self, state):
        super().__init__(f"the moves of {state} are wrong")
        self.state = state


class BadLine(LadderreachError):
    """A line of a text does not have its form."""

    def __init__(self, number):
        super().__init__(f"line {number} does not have its form")
        self.number = number


class DeskError(LadderreachError):
    """The base class of the errors of desks."""


class NothingToUndo(DeskError):
    """There is no deed that can be taken back."""


class NothingToRedo(DeskError):
    """There is no deed that can be done once more."""


class ScriptError(DeskError):
    """A command of a script raised an error."""

    def __init__(self, number, name):
        super().__init__(f"line {number} raised {name}")
        self.number = number
        self.name = name


class UnknownLimit(LadderreachError):
    """A limit has a name that is not known."""

    def __init__(self, name):
        super().__init__(f"there is no limit {name}")
        self.name = name
