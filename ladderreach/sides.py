"""What two ladders tell of the two players."""

from ladderreach.climbing import told_nodes


def both_sides(game, ladder, other):
    """For each node "A" if the one ladder tells it, "B" if the other tells it in the mirrored game, else "?"."""
    mirror = game.mirrored()
    told = told_nodes(game, ladder)
    told_in_mirror = told_nodes(mirror, other)
    sides = ["?"] * game.size
    for node in told:
        sides[node] = "A"
    for node in told_in_mirror:
        sides[node] = "B"
    return "".join(sides)
