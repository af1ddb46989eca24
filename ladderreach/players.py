"""The two players and the ranks that they want."""


def opponent(player):
    """The other player."""
    return "B" if player == "A" else "A"


def wanting(rank):
    """The player who wins if this is the greatest rank that occurs infinitely often."""
    return "A" if rank % 2 == 0 else "B"
