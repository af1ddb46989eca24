"""Whether the talks of controllers and worlds are kept."""

from ladderreach.errors import ShapeMismatch
from ladderreach.players import wanting
from ladderreach.routes import way_round


def judge_controller(monitor, controller):
    """None if every talk with the controller is kept, else a stem and a cycle of letters of one that is not."""
    _check_controller(monitor, controller)
    letters = {}
    for state, rows in enumerate(monitor.moves):
        for memory, replies in enumerate(controller.moves):
            for letter, (answer, next_memory) in enumerate(replies):
                rank, next_state = rows[letter][answer]
                letters[((state, memory), rank, (next_state, next_memory))] = letter
    return _words_round(letters, 1)


def judge_world(monitor, world):
    """None if no talk with the world is kept, else a stem and a cycle of answers of one that is."""
    _check_world(monitor, world)
    answers = {}
    for state, rows in enumerate(monitor.moves):
        for memory, (letter, next_memories) in enumerate(world.moves):
            for answer, next_memory in enumerate(next_memories):
                rank, next_state = rows[letter][answer]
                answers[((state, memory), rank, (next_state, next_memory))] = answer
    return _words_round(answers, 0)


def meet(monitor, controller, world):
    """The winner, the stem and the cycle of the talk of the controller and the world."""
    _check_controller(monitor, controller)
    _check_world(monitor, world)
    moments = []
    talk = []
    moment = (0, 0, 0)
    while moment not in moments:
        moments.append(moment)
        state, memory, world_memory = moment
        letter, next_memories = world.moves[world_memory]
        answer, next_memory = controller.moves[memory][letter]
        rank, next_state = monitor.moves[state][letter][answer]
        talk.append((letter, answer, rank))
        moment = (next_state, next_memory, next_memories[answer])
    first = moments.index(moment)
    cycle = talk[first:]
    return wanting(max([rank for _, _, rank in cycle])), talk[:first], cycle


def _words_round(signs, remainder):
    """The words along a way round such a cycle, or None; signs is a dict from each edge to what is written there."""
    # Two edges that differ in the sign alone do the same, so that either sign will do.
    way = way_round(list(signs), (0, 0), remainder)
    if way is None:
        return None
    stem, cycle = way
    return [signs[edge] for edge in stem], [signs[edge] for edge in cycle]


def _check_controller(monitor, controller):
    """Raise ShapeMismatch if the controller does not have the letters and the answers of the monitor."""
    if len(controller.moves[0]) != monitor.letters:
        raise ShapeMismatch("the numbers of letters differ")
    if any([answer >= monitor.answers for replies in controller.moves for answer, _ in replies]):
        raise ShapeMismatch("the controller gives an answer that the monitor does not have")


def _check_world(monitor, world):
    """Raise ShapeMismatch if the world does not have the answers and the letters of the monitor."""
    _, next_memories = world.moves[0]
    if len(next_memories) != monitor.answers:
        raise ShapeMismatch("the numbers of answers differ")
    if any([letter >= monitor.letters for letter, _ in world.moves]):
        raise ShapeMismatch("the world gives a letter that the monitor does not have")
