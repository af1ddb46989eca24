"""Reports on a game and a ladder."""

from ladderreach.climbing import climb
from ladderreach.errors import UnknownLimit
from ladderreach.placements import step_word
from ladderreach.winners import solve

_LIMITS = ("owner", "winner", "told", "least", "most")


def table(game, ladder):
    """The list of a head line and of a line for each node with its owner, its winner and its step."""
    placement = climb(game, ladder)
    winners, _ = solve(game)
    lines = ["node  o  w  step"]
    for node, entry in enumerate(placement):
        lines.append(f"{node:>4}  {game.owners[node]}  {winners[node]}  {step_word(entry):>4}")
    return lines


def nodes_where(game, ladder, **limits):
    """The list of the nodes that meet all the limits."""
    placement = climb(game, ladder)
    for name in limits:
        if name not in _LIMITS:
            raise UnknownLimit(name)
    winners, _ = solve(game)
    found = []
    for node, step in enumerate(placement):
        facts = {"owner": game.owners[node], "winner": winners[node], "told": step is not None, "step": step}
        if all([_is_met(facts, name, worth) for name, worth in limits.items()]):
            found.append(node)
    return found


def _is_met(facts, name, worth):
    """Whether a node with these facts meets the limit."""
    if name == "least":
        return facts["told"] and facts["step"] >= worth
    if name == "most":
        return facts["told"] and facts["step"] <= worth
    return facts[name] == worth
