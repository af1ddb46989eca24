"""Controllers and worlds: machines with memories that talk with each other."""

from ladderreach.checks import check_count
from ladderreach.errors import BadMove, NoSuchLetter

_MOST_MEMORIES = 4
_MOST_LETTERS = 2
_MOST_ANSWERS = 3


class Controller:
    """For each memory and letter an answer and the next memory, and the present memory."""

    def __init__(self, moves):
        check_count(len(moves), _MOST_MEMORIES)
        check_count(len(moves[0]), _MOST_LETTERS)
        for memory, row in enumerate(moves):
            right = [0 <= answer < _MOST_ANSWERS and 0 <= end < len(moves) for answer, end in row]
            if len(row) != len(moves[0]) or not all(right):
                raise BadMove(memory)
        self.moves = tuple([_pairs(given) for given in moves])
        self.memory = 0

    def __call__(self, letter):
        row = self.moves[self.memory]
        if not 0 <= letter < len(row):
            raise NoSuchLetter(letter)
        answer, self.memory = row[letter]
        return answer

    def reset(self):
        """Go back to memory 0."""
        self.memory = 0


class World:
    """For each memory a letter and, for each answer to it, the next memory."""

    def __init__(self, moves):
        check_count(len(moves), _MOST_MEMORIES)
        _, first_ends = moves[0]
        check_count(len(first_ends), _MOST_ANSWERS)
        for memory, (letter, ends) in enumerate(moves):
            right = [0 <= end < len(moves) for end in ends]
            if len(ends) != len(first_ends) or not 0 <= letter < _MOST_LETTERS or not all(right):
                raise BadMove(memory)
        self.moves = tuple([(given[0], tuple(given[1])) for given in moves])


def _pairs(row):
    """The tuple of the pairs in the row."""
    return tuple([(answer, end) for answer, end in row])
