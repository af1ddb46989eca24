"""Points [51] and [52]: monitors and their games."""

from ladderreach.errors import BadHeight, BadMove, BadSize
from ladderreach.games import Game
from ladderreach.monitors import Monitor, monitor_game
from tests.drawnmachines import draw_monitor_moves, draw_monitors, monitor_shapes
from tests.helpers import Case, drawn


def as_tuples(moves):
    return tuple(tuple(tuple(row) for row in rows) for rows in moves)


def slow_game(height, moves):
    """Owners and edges by the words of the point."""
    states, letters = len(moves), len(moves[0])
    edges = set()
    for state in range(states):
        for letter in range(letters):
            edges.add((state, 0, states + state * letters + letter))
            for rank, end in moves[state][letter]:
                edges.add((states + state * letters + letter, rank, end))
    return "B" * states + "A" * (states * letters), sorted(edges)


def shaped(states, letters, answers, pair=(0, 0)):
    return [[[pair] * answers for _ in range(letters)] for _ in range(states)]


class MonitorTest(Case):
    def test_attributes(self):
        monitor = Monitor(1, [[[(2, 0), (1, 1), (0, 0)]], [[(0, 1), (1, 0), (2, 1)]]])
        self.assertEqual((monitor.height, monitor.states, monitor.letters, monitor.answers), (1, 2, 1, 3))
        self.assertEqual(monitor.moves, ((((2, 0), (1, 1), (0, 0)),), (((0, 1), (1, 0), (2, 1)),)))
        for name in ("height", "states", "letters", "answers", "moves"):
            self.assertIn(name, vars(monitor))

    def test_every_shape(self):
        rng = drawn(51)
        for height in (1, 2, 3):
            for shape in monitor_shapes():
                moves = draw_monitor_moves(rng, height, *shape)
                for passed in (moves, as_tuples(moves)):
                    monitor = Monitor(height, passed)
                    self.assertEqual(monitor.height, height)
                    self.assertEqual((monitor.states, monitor.letters, monitor.answers), shape)
                    self.assertEqual(monitor.moves, as_tuples(moves))

    def test_moves_are_copied(self):
        moves = [[[(2, 0), (1, 1)]], [[(0, 1), (1, 0)]]]
        expected = as_tuples(moves)
        monitor = Monitor(1, moves)
        game = monitor_game(monitor)
        moves[0][0][0] = (1, 1)
        moves[0][0].append((0, 0))
        moves[1].append([(0, 0)])
        moves.pop()
        self.assertEqual(monitor.moves, expected)
        self.assertEqual((monitor.states, monitor.letters, monitor.answers), (2, 1, 2))
        self.assertEqual(monitor_game(monitor), game)

    def test_bad_height(self):
        for height in (-1, 0, 4):
            self.assert_raises(BadHeight, Monitor, height, shaped(1, 1, 1))
            self.assert_raises(BadHeight, Monitor, height, [])
            self.assert_raises(BadHeight, Monitor, height, shaped(4, 3, 4, (99, 99)))

    def test_bad_size(self):
        for height in (1, 2, 3):
            for count in (0, 4, 5, 9):
                self.assert_raises(BadSize, Monitor, height, shaped(count, 1, 1))
                self.assert_raises(BadSize, Monitor, height, shaped(1, 1, count))
                self.assert_raises(BadSize, Monitor, height, shaped(3, 2, count))
            for count in (0, 3, 4, 9):
                self.assert_raises(BadSize, Monitor, height, shaped(1, count, 1))
                self.assert_raises(BadSize, Monitor, height, shaped(3, count, 3))
        self.assert_raises(BadSize, Monitor, 1, ())
        self.assert_raises(BadSize, Monitor, 1, ((),))
        self.assert_raises(BadSize, Monitor, 1, (((),),))

    def test_bad_size_ahead_of_bad_move(self):
        self.assert_raises(BadSize, Monitor, 1, shaped(4, 1, 1, (9, 9)))
        self.assert_raises(BadSize, Monitor, 1, shaped(1, 3, 1, (9, 9)))
        self.assert_raises(BadSize, Monitor, 1, shaped(1, 1, 4, (9, 9)))
        self.assert_raises(BadSize, Monitor, 1, [[[(9, 9)]], [[(0, 0)]], [[(0, 0)]], [[(0, 0)]]])
        # The numbers are those of state 0 and of its letter 0; another number elsewhere is a wrong state.
        self.assert_raises(BadMove, Monitor, 1, [[[(0, 0)]], [[(0, 0)]] * 3], has={"state": 1})
        self.assert_raises(BadMove, Monitor, 1, [[[(0, 0)], [(0, 0)] * 4]], has={"state": 0})
        self.assert_raises(BadMove, Monitor, 1, [[[(0, 0)], []]], has={"state": 0})
        self.assert_raises(BadMove, Monitor, 1, [[[(0, 0)]], []], has={"state": 1})

    def test_another_number_of_letters_or_answers(self):
        for states, letters, answers in monitor_shapes():
            for state in range(states):
                for other in (0, 1, 2, 3):
                    if other != letters and state > 0:
                        moves = shaped(states, letters, answers)
                        moves[state] = [[(0, 0)] * answers for _ in range(other)]
                        self.assert_raises(BadMove, Monitor, 2, moves, has={"state": state})
                for letter in range(letters):
                    for other in (0, 1, 2, 3, 4):
                        if other != answers and state + letter > 0:
                            moves = shaped(states, letters, answers)
                            moves[state][letter] = [(0, 0)] * other
                            self.assert_raises(BadMove, Monitor, 2, moves, has={"state": state})

    def test_ranks_and_states_out_of_range(self):
        for height in (1, 2, 3):
            for states, letters, answers in monitor_shapes():
                right = ((0, 0), (2 * height, states - 1))
                wrong = ((-1, 0), (2 * height + 1, 0), (0, -1), (0, states), (99, 0))
                for state in range(states):
                    for letter in range(letters):
                        for answer in range(answers):
                            for pair in right + wrong:
                                moves = shaped(states, letters, answers)
                                moves[state][letter][answer] = pair
                                if pair in right:
                                    self.assertEqual(Monitor(height, moves).moves[state][letter][answer], pair)
                                else:
                                    self.assert_raises(BadMove, Monitor, height, moves, has={"state": state})

    def test_the_least_wrong_state(self):
        good, bad, short = [[(0, 0), (1, 1)]], [[(0, 0), (3, 0)]], [[(0, 0)]]
        self.assert_raises(BadMove, Monitor, 1, [good, short, bad], has={"state": 1})
        self.assert_raises(BadMove, Monitor, 1, [good, bad, good + good], has={"state": 1})
        self.assert_raises(BadMove, Monitor, 1, [good, good, bad], has={"state": 2})
        self.assert_raises(BadMove, Monitor, 1, [bad, short, bad], has={"state": 0})


class MonitorGameTest(Case):
    def test_small(self):
        self.assertEqual(monitor_game(Monitor(1, [[[(1, 0)]]])), Game(1, "BA", [(0, 0, 1), (1, 1, 0)]))
        self.assertEqual(
            monitor_game(Monitor(2, [[[(1, 0), (4, 1)], [(3, 1), (3, 1)]], [[(0, 1), (0, 0)], [(2, 0), (2, 0)]]])),
            Game(2, "BBAAAA", [
                (0, 0, 2), (0, 0, 3), (1, 0, 4), (1, 0, 5), (2, 1, 0), (2, 4, 1), (3, 3, 1), (4, 0, 0), (4, 0, 1),
                (5, 2, 0),
            ]))

    def test_every_shape(self):
        rng = drawn(52)
        doubled = 0
        for height, moves in draw_monitors(rng, 6):
            game = monitor_game(Monitor(height, moves))
            owners, edges = slow_game(height, moves)
            self.assertIs(type(game), Game)
            self.assertEqual(game, Game(height, owners, edges))
            count = len(moves) * len(moves[0]) * (1 + len(moves[0][0]))
            doubled += len(edges) < count
        self.assertGreater(doubled, 50)

    def test_equal_edges_occur_once(self):
        game = monitor_game(Monitor(3, shaped(3, 2, 3, (6, 2))))
        self.assertEqual(game.size, 9)
        self.assertEqual(len(game.edges), 12)
        self.assertEqual(game.out(8), ((8, 6, 2),))

    def test_limits(self):
        for height in (1, 2, 3):
            moves = [[[(answer + height - 1, state) for answer in range(3)] for _ in range(2)] for state in range(3)]
            game = monitor_game(Monitor(height, moves))
            self.assertEqual((game.size, len(game.edges)), (9, 24))
            self.assertEqual(game.owners, "BBBAAAAAA")
