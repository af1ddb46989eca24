"""Controllers and worlds that are made for a monitor."""

from ladderreach.checks import check_same_height
from ladderreach.climbing import climb
from ladderreach.climbplans import plan_of
from ladderreach.machines import Controller, World
from ladderreach.monitors import letter_node, monitor_game
from ladderreach.winners import solve


def synthesize(monitor):
    """A controller with which every talk is kept, or a world with which none is."""
    winners, plan = solve(monitor_game(monitor))
    return _controller_of(monitor, plan) if winners[0] == "A" else _world_of(monitor, plan)


def synthesize_on(monitor, ladder):
    """A controller with which every talk is kept if the ladder tells that there is one, else None."""
    check_same_height(monitor.height, ladder.height)
    game = monitor_game(monitor)
    placement = climb(game, ladder)
    if placement[0] is None:
        return None
    return _controller_of(monitor, plan_of(game, ladder, placement))


def _controller_of(monitor, plan):
    """The controller whose memory is the state of the monitor and that answers by the plan."""
    letters = range(monitor.letters)
    return Controller([[_reply(monitor, plan, state, letter) for letter in letters] for state in range(monitor.states)])


def _reply(monitor, plan, state, letter):
    """The answer to the letter and the state after it."""
    pairs = monitor.moves[state][letter]
    edge = plan[letter_node(monitor, state, letter)]
    # A talk by the plan never comes to where the plan has no edge, so that any answer will do.
    answer = 0 if edge is None else pairs.index((edge[1], edge[2]))
    _, end = pairs[answer]
    return (answer, end)


def _world_of(monitor, plan):
    """The world whose memory is the state of the monitor and that gives letters by the plan."""
    moves = []
    for state, rows in enumerate(monitor.moves):
        edge = plan[state]
        letter = 0 if edge is None else edge[2] - letter_node(monitor, state, 0)
        moves.append((letter, [end for _, end in rows[letter]]))
    return World(moves)
