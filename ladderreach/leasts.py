"""The first ladders that reach far enough, or that tell enough of some games."""

from ladderreach.checks import check_height, check_same_height
from ladderreach.climbing import told_nodes
from ladderreach.errors import BadSize, TooLarge
from ladderreach.ladders import Ladder
from ladderreach.reaching import lacking
from ladderreach.rowshapes import rows_of, rows_up_to
from ladderreach.sizes import floor_steps
from ladderreach.winners import nodes_of_a

# The item at the index of a height is the greatest count that least_ladder takes.
_MOST_COUNTS = (0, 9, 4, 3)
_MOST_NODES = 3


def least_ladder(height, count):
    """The ladder with the first row whose reach is at least the count."""
    check_height(height)
    if count < 1:
        raise BadSize(f"the count {count} is less than 1")
    if count > _MOST_COUNTS[height]:
        raise TooLarge(f"the count {count} is too great for the height {height}")
    # No shorter row reaches as far, and one of this length does.
    ladders = [Ladder(height, row) for row in rows_of(height, floor_steps(height, count) - 1)]
    index = 0
    while lacking(ladders[index], count) is not None:
        index += 1
    return ladders[index]


def shortest_for(first, *others):
    """The ladder with the first row that tells all that A wins in each of the games."""
    games = [first, *others]
    for game in games:
        check_same_height(first.height, game.height)
    if first.height == 3 or any([each.size > _MOST_NODES for each in games]):
        raise TooLarge("the games have the height 3 or too many nodes")
    # A ladder that reaches as far as the games are large tells all that A wins in them.
    most = floor_steps(first.height, _MOST_NODES) - 1
    ladders = [Ladder(first.height, row) for row in rows_up_to(first.height, most)]
    won = [nodes_of_a(each) for each in games]
    good = [ladder for ladder in ladders if [told_nodes(each, ladder) for each in games] == won]
    return good[0]
