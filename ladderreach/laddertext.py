"""Ladders as texts."""

from ladderreach.digits import is_number
from ladderreach.errors import BadLine
from ladderreach.ladders import Ladder


def format_ladder(ladder):
    """The written form of the ladder."""
    levels = [str(level) for level in ladder.levels]
    return " ".join([f"ladder {ladder.height}:", *levels])


def parse_ladder(text):
    """The ladder of which the text is the written form."""
    parts = text.split(" ")
    if len(parts) < 2 or parts[0] != "ladder" or not parts[1].endswith(":"):
        raise BadLine(1)
    numbers = [parts[1].removesuffix(":"), *parts[2:]]
    if not all([is_number(word) for word in numbers]):
        raise BadLine(1)
    height, *levels = [int(word) for word in numbers]
    return Ladder(height, levels)
