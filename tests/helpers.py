"""What the tests share: a test case, drawn webs and games, and slow answers to hold the program against."""

import itertools
import random
import unittest

from ladderreach.games import Game
from ladderreach.webs import Web


class Case(unittest.TestCase):
    def assert_raises(self, error, call, *args, **more):
        """The call raises an object of exactly this class; `has` gives its attributes."""
        has = more.pop("has", {})
        with self.assertRaises(error) as caught:
            call(*args, **more)
        self.assertIs(type(caught.exception), error)
        for name, value in has.items():
            self.assertEqual(getattr(caught.exception, name), value)

    def assert_cycle(self, cycle, edges):
        """It is a list of these edges that is a cycle."""
        self.assertIs(type(cycle), list)
        self.assertGreater(len(cycle), 0)
        for edge, following in zip(cycle, cycle[1:] + cycle[:1]):
            self.assertIn(edge, edges)
            self.assertEqual(edge[2], following[0])
        sources = [edge[0] for edge in cycle]
        self.assertEqual(len(set(sources)), len(sources))


def all_edges(height, size):
    return list(itertools.product(range(size), range(2 * height + 1), range(size)))


def full_edges(height):
    """63 edges between 9 nodes, 7 out of each, with all ranks, in an order that is not ascending."""
    edges = []
    for node in range(9):
        for k in range(7):
            edges.append((node, (2 * node + k) % (2 * height + 1), (node * 4 + k * 5) % 9))
    assert len(set(edges)) == 63
    return edges[40:] + edges[:40]


def full_game(height):
    return Game(height, "ABBABAABB", full_edges(height))


def draw_web(rng, most_size=9, most_edges=63, height=None):
    height = height or rng.randint(1, 3)
    size = rng.randint(1, most_size)
    possible = all_edges(height, size)
    count = min(rng.randint(0, most_edges), len(possible))
    return Web(height, size, rng.sample(possible, count))


def draw_even_web(rng, most_size=9, tries=60, height=None):
    """A web without an odd cycle: edges are put in as long as they close none."""
    height = height or rng.randint(1, 3)
    size = rng.randint(1, most_size)
    edges = []
    for edge in rng.sample(all_edges(height, size), min(tries, (2 * height + 1) * size * size)):
        if not has_cycle(size, edges + [edge], 1) and len(edges) < 63:
            edges.append(edge)
    return Web(height, size, edges)


def draw_game(rng, most_size=9, most_out=7, height=None):
    height = height or rng.randint(1, 3)
    size = rng.randint(1, most_size)
    owners = "".join(rng.choice("AB") for _ in range(size))
    edges = []
    for node in range(size):
        possible = [edge for edge in all_edges(height, size) if edge[0] == node]
        edges.extend(rng.sample(possible, min(rng.randint(1, most_out), len(possible))))
    rng.shuffle(edges)
    return Game(height, owners, edges)


def drawn(seed):
    return random.Random(seed)


def reaches(size, edges):
    """The table of which node reaches which, each reaching itself."""
    table = [[one == other for other in range(size)] for one in range(size)]
    for source, _, target in edges:
        table[source][target] = True
    for middle in range(size):
        for one in range(size):
            for other in range(size):
                if table[one][middle] and table[middle][other]:
                    table[one][other] = True
    return table


def has_cycle(size, edges, remainder):
    """Whether some cycle has a greatest rank with this remainder."""
    for source, rank, target in edges:
        if rank % 2 == remainder:
            small = [edge for edge in edges if edge[1] <= rank]
            if reaches(size, small)[target][source]:
                return True
    return False


def simple_cycles(edges):
    """All cycles, each once, beginning at its least node."""
    found = []

    def go_on(path):
        for edge in edges:
            if edge[0] == path[-1][2]:
                if edge[2] == path[0][0]:
                    found.append(path + [edge])
                elif edge[2] > path[0][0] and edge[2] not in [other[0] for other in path + [edge]]:
                    go_on(path + [edge])

    for edge in edges:
        if edge[0] == edge[2]:
            found.append([edge])
        elif edge[2] > edge[0]:
            go_on([edge])
    return found


def greatest_rank(edges):
    return max(edge[1] for edge in edges)


def slow_winners(game):
    """A wins a node exactly if, with some plan of A, it does not reach an odd cycle."""
    ways = [[edge for edge in game.edges if edge[0] == node] for node in range(game.size)]
    choices = [[[edge] for edge in ways[node]] if game.owners[node] == "A" else [ways[node]]
               for node in range(game.size)]
    won = [False] * game.size
    for choice in itertools.product(*choices):
        edges = [edge for taken in choice for edge in taken]
        bad = {edge[0] for cycle in simple_cycles(edges) if greatest_rank(cycle) % 2 == 1 for edge in cycle}
        table = reaches(game.size, edges)
        for node in range(game.size):
            if not any(table[node][other] for other in bad):
                won[node] = True
    return "".join("A" if each else "B" for each in won)


def gap(levels, one, other):
    between = levels[min(one, other):max(one, other)]
    return max(between) if between else 0


def allowed(levels, source, rank, target):
    """The words of the point on allowed edges."""
    if rank % 2 == 0:
        return source >= target or gap(levels, source, target) <= rank // 2
    return source > target and gap(levels, source, target) >= (rank + 1) // 2


def all_rows_up_to(height, count):
    return [row for length in range(count + 1) for row in itertools.product(range(1, height + 1), repeat=length)]


def draw_row(rng, height, most_levels=24):
    return tuple(rng.randint(1, height) for _ in range(rng.randint(0, most_levels)))


def draw_standing_web(rng, height, size, edges):
    """A web with up to this many edges, all allowed between drawn steps of a drawn ladder."""
    levels = tuple(rng.randint(1, height) for _ in range(size - 1))
    steps = [rng.randint(0, len(levels)) for _ in range(size)]
    possible = [edge for edge in all_edges(height, size) if allowed(levels, steps[edge[0]], edge[1], steps[edge[2]])]
    return Web(height, size, rng.sample(possible, min(edges, len(possible))))


def node_fits(game, levels, placement, node):
    """Whether the node fits, looked at edge by edge."""
    if placement[node] is None:
        return True
    good = [
        placement[edge[2]] is not None and allowed(levels, placement[node], edge[1], placement[edge[2]])
        for edge in game.edges if edge[0] == node
    ]
    return any(good) if game.owners[node] == "A" else all(good)


def fits(game, levels, placement):
    """Whether all nodes fit."""
    return all(node_fits(game, levels, placement, node) for node in range(game.size))


def slow_lift(game, levels, placement, node):
    """The placement after the node has been lifted, all steps from the present one on being tried."""
    if placement[node] is None:
        return list(placement)
    for step in [*range(placement[node], len(levels) + 1), None]:
        tried = [step if other == node else placement[other] for other in range(game.size)]
        if node_fits(game, levels, tried, node):
            return tried
    raise AssertionError("a node that is off fits")


def slow_climb(game, levels, choose=min):
    """The placement after lifting nodes that do not fit, in the order in which choose takes them."""
    placement = [0] * game.size
    while True:
        wrong = [node for node in range(game.size) if not node_fits(game, levels, placement, node)]
        if not wrong:
            return placement
        placement = slow_lift(game, levels, placement, choose(wrong))


def slow_told(game, levels):
    return [node for node, entry in enumerate(slow_climb(game, levels)) if entry is not None]


def all_holding_steps(levels, row):
    """All choices of steps by which the ladder with these levels holds the row, in lexicographic order."""
    return [
        list(steps) for steps in itertools.combinations(range(len(levels) + 1), len(row) + 1)
        if all(gap(levels, steps[k], steps[k + 1]) == row[k] for k in range(len(row)))
    ]


def slow_holds(levels, row):
    return len(all_holding_steps(levels, row)) > 0


def marked_holds(levels, row):
    """The same for long ladders: the steps that can be the last one, level by level."""
    steps = range(len(levels) + 1)
    marked = set(steps)
    for level in row:
        marked = {step for step in steps if any(
            before < step and gap(levels, before, step) == level for before in marked)}
    return len(marked) > 0


def row_order(row):
    return (len(row), row)


def draw_placement(rng, size, levels):
    """Steps of the ladder with these levels, and some nodes off."""
    return [rng.choice([None, *range(len(levels) + 1)]) for _ in range(size)]


def draw_fitting_game(rng, height, levels, most_size=9, most_out=5):
    """A game, and a placement in which many of its nodes fit: A has an allowed edge there, B nothing else."""
    size = rng.randint(1, most_size)
    placement = [rng.randint(0, len(levels)) for _ in range(size)]
    owners = "".join(rng.choice("AB") for _ in range(size))
    edges = []
    for node in range(size):
        possible = [edge for edge in all_edges(height, size) if edge[0] == node]
        good = [edge for edge in possible if allowed(levels, placement[node], edge[1], placement[edge[2]])]
        taken = rng.sample(good, min(len(good), rng.randint(1, most_out)))
        if owners[node] == "A" or rng.random() < 0.1:
            taken.append(rng.choice(possible))
        edges.extend(sorted(set(taken)))
    rng.shuffle(edges)
    return Game(height, owners, edges), placement


def long_levels(height):
    """24 levels of all kinds."""
    return tuple((5 * k + k // 3) % height + 1 for k in range(24))


def games_and_levels(rng, count, most_size=9, most_levels=24):
    """Drawn games, each with the levels of a ladder of its height: half of them fit somewhere."""
    for turn in range(count):
        height = turn % 3 + 1
        levels = draw_row(rng, height, most_levels)
        if turn % 2 == 0:
            yield draw_game(rng, most_size=most_size, most_out=3, height=height), levels
        else:
            yield draw_fitting_game(rng, height, levels, most_size=most_size)[0], levels


def wins_for(game, player, nodes, plan):
    """Whether the plan wins for the player on these nodes: no missing entry, no leak, no wrong cycle."""
    edges = []
    for edge in game.edges:
        if edge[0] in nodes:
            if game.owners[edge[0]] != player:
                edges.append(edge)
            elif plan[edge[0]] is None:
                return False
            elif plan[edge[0]] == edge:
                edges.append(edge)
    if any(edge[2] not in nodes for edge in edges):
        return False
    return not has_cycle(game.size, edges, 1 if player == "A" else 0)


def slow_step(levels, step, rank):
    """The greatest step to which the rank is allowed, None if there is none or the step is None."""
    if step is None:
        return None
    return max([end for end in range(len(levels) + 1) if allowed(levels, step, rank, end)], default=None)


def slow_read(levels, word, step):
    found = []
    for rank in word:
        step = slow_step(levels, step, rank)
        found.append(step)
    return found


def draw_word(rng, height, most):
    return [rng.randint(0, 2 * height) for _ in range(rng.randint(0, most))]


def slow_halving(count, level):
    if level == 0:
        return []
    parts = [slow_halving((count - 1) // 2, level)] if (count - 1) // 2 else []
    parts.append(slow_halving(count, level - 1))
    if count // 2:
        parts.append(slow_halving(count // 2, level))
    row = parts[0]
    for part in parts[1:]:
        row = row + [level] + part
    return row


def slow_lacking(levels, height, count, holds=slow_holds):
    for row in itertools.product(range(1, height + 1), repeat=count - 1):
        if not holds(levels, row):
            return row
    return None


def slow_reach(levels, height):
    count = 1
    while slow_lacking(levels, height, count + 1, marked_holds) is None:
        count += 1
    return count


def pairs_of_levels(rng, most_levels, count):
    """Pairs of levels of one height, and some in which one ladder is cut out of the other."""
    for turn in range(count):
        height = turn % 3 + 1
        levels = draw_row(rng, height, most_levels)
        if turn % 2 == 0:
            yield height, levels, draw_row(rng, height, most_levels)
        else:
            kept = tuple(level for level in levels if rng.random() < 0.7)
            yield (height, levels, kept) if turn % 4 == 1 else (height, kept, levels)
