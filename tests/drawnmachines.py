"""Drawn machines, and slow answers about them."""

from tests.helpers import allowed, draw_row, has_cycle, reaches


def draw_moves(rng, height, size, off):
    """Moves of a watcher, each of which goes off with this chance."""
    return [
        [None if rng.random() < off else rng.randrange(size) for _ in range(2 * height + 1)] for _ in range(size)
    ]


def draw_good_moves(rng, height, size, off):
    """Moves of a watcher without a false win: each is allowed between drawn steps of a drawn ladder."""
    levels = draw_row(rng, height, size - 1)
    steps = [rng.randint(0, len(levels)) for _ in range(size)]
    moves = []
    for state in range(size):
        row = []
        for rank in range(2 * height + 1):
            ends = [end for end in range(size) if allowed(levels, steps[state], rank, steps[end])]
            row.append(rng.choice(ends) if ends and rng.random() >= off else None)
        moves.append(row)
    return moves


def draw_watchers(rng, turns, most=9):
    """Heights and moves of watchers of all sizes, half of them without a false win."""
    for turn in range(turns):
        height = turn % 3 + 1
        size = rng.randint(1, most)
        draw = draw_moves if turn % 2 else draw_good_moves
        yield height, draw(rng, height, size, rng.choice((0, 0.2, 0.5, 0.8)))


def moves_as_edges(moves):
    return [(state, rank, end) for state, row in enumerate(moves) for rank, end in enumerate(row) if end is not None]


def reachable_states(moves):
    table = reaches(len(moves), moves_as_edges(moves))
    return [state for state in range(len(moves)) if table[0][state]]


def has_false_win(moves):
    """Whether some cycle of reachable states has an odd greatest rank."""
    found = reachable_states(moves)
    return has_cycle(len(moves), [edge for edge in moves_as_edges(moves) if edge[0] in found], 1)


def slow_staying(game, moves):
    """All pairs of a node and a state, from which the pairs that cannot go on are taken away one by one."""
    pairs = {(node, state) for node in range(game.size) for state in range(len(moves))}

    def goes_on(node, state):
        good = [(target, moves[state][rank]) in pairs for source, rank, target in game.edges if source == node]
        return any(good) if game.owners[node] == "A" else all(good)

    while True:
        bad = [pair for pair in sorted(pairs) if not goes_on(*pair)]
        if not bad:
            return [[state for state in range(len(moves)) if (node, state) in pairs] for node in range(game.size)]
        pairs.remove(bad[0])


def draw_monitor_moves(rng, height, states, letters, answers):
    """Moves of a monitor of this shape."""
    return [
        [[(rng.randint(0, 2 * height), rng.randrange(states)) for _ in range(answers)] for _ in range(letters)]
        for _ in range(states)
    ]


def monitor_shapes():
    return [(states, letters, answers) for states in (1, 2, 3) for letters in (1, 2) for answers in (1, 2, 3)]


def draw_monitors(rng, turns):
    """Heights and moves of monitors of every shape, this many of each height and shape."""
    for height in (1, 2, 3):
        for shape in monitor_shapes():
            for _ in range(turns):
                yield height, draw_monitor_moves(rng, height, *shape)


def draw_controller_moves(rng, letters, answers, memories=None):
    memories = memories or rng.randint(1, 4)
    return [[(rng.randrange(answers), rng.randrange(memories)) for _ in range(letters)] for _ in range(memories)]


def draw_world_moves(rng, letters, answers, memories=None):
    memories = memories or rng.randint(1, 4)
    return [(rng.randrange(letters), [rng.randrange(memories) for _ in range(answers)]) for _ in range(memories)]


def controller_talk(monitor_moves, controller_moves, letters, place=(0, 0)):
    """The ranks of the talk with these letters, and the state and the memory behind it."""
    state, memory = place
    ranks = []
    for letter in letters:
        answer, memory = controller_moves[memory][letter]
        rank, state = monitor_moves[state][letter][answer]
        ranks.append(rank)
    return ranks, (state, memory)


def world_talk(monitor_moves, world_moves, answers, place=(0, 0)):
    """The ranks of the talk with these answers, and the state and the memory behind it."""
    state, memory = place
    ranks = []
    for answer in answers:
        letter, ends = world_moves[memory]
        rank, state = monitor_moves[state][letter][answer]
        memory = ends[answer]
        ranks.append(rank)
    return ranks, (state, memory)


def has_talk(places, talk, signs, remainder):
    """Whether by these signs some cycle of places that can be reached from the first has such a greatest rank."""
    edges = []
    for at, place in enumerate(places):
        for sign in signs:
            ranks, end = talk([sign], place)
            edges.append((at, ranks[0], places.index(end)))
    table = reaches(len(places), edges)
    return has_cycle(len(places), [edge for edge in edges if table[0][edge[0]]], remainder)


def all_places(states, memories):
    return [(state, memory) for state in range(states) for memory in range(memories)]


def controller_fails(monitor_moves, controller_moves):
    """Whether some talk with the controller is not kept."""
    places = all_places(len(monitor_moves), len(controller_moves))
    return has_talk(places, lambda letters, place: controller_talk(monitor_moves, controller_moves, letters, place),
                    range(len(monitor_moves[0])), 1)


def world_fails(monitor_moves, world_moves):
    """Whether some talk with the world is kept."""
    places = all_places(len(monitor_moves), len(world_moves))
    return has_talk(places, lambda answers, place: world_talk(monitor_moves, world_moves, answers, place),
                    range(len(monitor_moves[0][0])), 0)
