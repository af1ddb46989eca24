"""Drawn machines, and slow answers about them."""

from tests.helpers import allowed, draw_row, has_cycle, reaches


def draw_moves(rng, height, size, off):
    """Moves of a watcher, each of which goes off with this chance."""
    return [
        [None if rng.random() < off else rng.randrange(size) for _ in range(2 * height + 1)] for _ in range(size)
    ]


def draw_good_moves(rng, height, size, off):
    """Moves of a watcher without a false win: each is allowed between drawn steps of a drawn ladder."""
    levels = draw_row(rng, height, size - 1)
    steps = [rng.randint(0, len(levels)) for _ in range(size)]
    moves = []
    for state in range(size):
        row = []
        for rank in range(2 * height + 1):
            ends = [end for end in range(size) if allowed(levels, steps[state], rank, steps[end])]
            row.append(rng.choice(ends) if ends and rng.random() >= off else None)
        moves.append(row)
    return moves


def draw_watchers(rng, turns, most=9):
    """Heights and moves of watchers of all sizes, half of them without a false win."""
    for turn in range(turns):
        height = turn % 3 + 1
        size = rng.randint(1, most)
        draw = draw_moves if turn % 2 else draw_good_moves
        yield height, draw(rng, height, size, rng.choice((0, 0.2, 0.5, 0.8)))


def moves_as_edges(moves):
    return [(state, rank, end) for state, row in enumerate(moves) for rank, end in enumerate(row) if end is not None]


def reachable_states(moves):
    table = reaches(len(moves), moves_as_edges(moves))
    return [state for state in range(len(moves)) if table[0][state]]


def has_false_win(moves):
    """Whether some cycle of reachable states has an odd greatest rank."""
    found = reachable_states(moves)
    return has_cycle(len(moves), [edge for edge in moves_as_edges(moves) if edge[0] in found], 1)


def slow_staying(game, moves):
    """All pairs of a node and a state, from which the pairs that cannot go on are taken away one by one."""
    pairs = {(node, state) for node in range(game.size) for state in range(len(moves))}

    def goes_on(node, state):
        good = [(target, moves[state][rank]) in pairs for source, rank, target in game.edges if source == node]
        return any(good) if game.owners[node] == "A" else all(good)

    while True:
        bad = [pair for pair in sorted(pairs) if not goes_on(*pair)]
        if not bad:
            return [[state for state in range(len(moves)) if (node, state) in pairs] for node in range(game.size)]
        pairs.remove(bad[0])
