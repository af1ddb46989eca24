"""Commands of a desk as they are written in lines."""

from ladderreach.digits import is_number
from ladderreach.errors import BadLine

# How many numbers follow each word; the word use takes any number of them.
_COUNTS = {"put": 3, "cut": 3, "give": 1, "undo": 0, "redo": 0, "show": 1, "told": 0, "levels": 0}


def read_command(number, line):
    """The word and the list of the numbers in the line with this number."""
    word, *parts = line.split(" ")
    if word != "use" and _COUNTS.get(word) != len(parts):
        raise BadLine(number)
    if not all([is_number(part) for part in parts]):
        raise BadLine(number)
    return word, [int(part) for part in parts]
