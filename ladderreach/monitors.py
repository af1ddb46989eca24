"""Monitors: machines that rank the talk of a world and a controller."""

from ladderreach.checks import check_count, check_height
from ladderreach.errors import BadMove
from ladderreach.games import Game

_MOST_STATES = 3
_MOST_LETTERS = 2
_MOST_ANSWERS = 3


class Monitor:
    """A height and, for each state, letter and answer, a rank and the next state."""

    def __init__(self, height, moves):
        check_height(height)
        check_count(len(moves), _MOST_STATES)
        check_count(len(moves[0]), _MOST_LETTERS)
        check_count(len(moves[0][0]), _MOST_ANSWERS)
        self.height = height
        self.states = len(moves)
        self.letters = len(moves[0])
        self.answers = len(moves[0][0])
        for state, rows in enumerate(moves):
            if len(rows) != self.letters or not all([_is_row(self, row) for row in rows]):
                raise BadMove(state)
        self.moves = tuple([_tuples(given) for given in moves])


def monitor_game(monitor):
    """The game in which B gives the letters and A the answers."""
    edges = []
    for state, rows in enumerate(monitor.moves):
        for letter, row in enumerate(rows):
            node = letter_node(monitor, state, letter)
            edges.append((state, 0, node))
            # Answers with the same rank and the same next state are one edge.
            edges.extend([(node, rank, end) for rank, end in sorted(set(row))])
    return Game(monitor.height, "B" * monitor.states + "A" * (monitor.states * monitor.letters), edges)


def letter_node(monitor, state, letter):
    """The node of the monitor's game at which A answers the letter in the state."""
    return monitor.states + state * monitor.letters + letter


def _tuples(rows):
    """The rows of pairs as nested tuples."""
    return tuple([tuple([(rank, end) for rank, end in row]) for row in rows])


def _is_row(monitor, row):
    """Whether this is a rank and a next state for each answer."""
    right = [0 <= rank <= 2 * monitor.height and 0 <= end < monitor.states for rank, end in row]
    return len(row) == monitor.answers and all(right)
