"""Checks of arguments that several calls share."""

from ladderreach.errors import (
    BadHeight, BadLevel, BadSize, HeightMismatch, NoSuchNode, NoSuchRank, NoSuchStep, TooLarge,
)


def check_height(height):
    """Raise BadHeight if the height is not 1, 2 or 3."""
    if height not in (1, 2, 3):
        raise BadHeight(f"the height {height} is not 1, 2 or 3")


def check_same_height(one, other):
    """Raise HeightMismatch if the two heights differ."""
    if one != other:
        raise HeightMismatch(f"the heights {one} and {other} differ")


def check_count(count, most):
    """Raise BadSize if the count is not one from 1 to the most."""
    if not 1 <= count <= most:
        raise BadSize(f"the count {count} is not 1 to {most}")


def check_node(size, node):
    """Raise NoSuchNode if the node is not one of the first size numbers."""
    if not 0 <= node < size:
        raise NoSuchNode(node)


def check_nodes(size, nodes):
    """Raise NoSuchNode for the first of the nodes that does not exist."""
    for node in nodes:
        check_node(size, node)


def check_step(top, step):
    """Raise NoSuchStep if the step is not one from 0 to the top."""
    if not 0 <= step <= top:
        raise NoSuchStep(step)


def check_rank(height, rank):
    """Raise NoSuchRank if the rank is not one from 0 to twice the height."""
    if not 0 <= rank <= 2 * height:
        raise NoSuchRank(rank)


def check_row(height, row, most):
    """Raise TooLarge for more than most levels, then BadLevel for the first level out of range."""
    if len(row) > most:
        raise TooLarge(f"a row of {len(row)} levels has more than {most}")
    for index, level in enumerate(row):
        if not 1 <= level <= height:
            raise BadLevel(index)
