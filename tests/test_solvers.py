"""Point [63]: solvers."""

from ladderreach.asking import asked
from ladderreach.errors import BadHeight, HeightMismatch, TooLarge
from ladderreach.games import Game
from ladderreach.ladders import Ladder
from ladderreach.solvers import Climber, Follower, Holder, Solver, Taker
from ladderreach.watchers import Watcher
from tests.drawnmachines import draw_good_moves, draw_moves, slow_staying
from tests.helpers import (
    Case, draw_fitting_game, draw_game, draw_row, drawn, full_game, long_levels, slow_told, slow_winners,
)


def one_of_each(height):
    """A solver of each class, by its name."""
    ladder = Ladder(height, [1, height])
    return {
        "Solver": Solver(height), "Taker": Taker(height), "Climber": Climber(ladder), "Holder": Holder(ladder),
        "Follower": Follower(Watcher(height, [[0] + [None] * (2 * height)])),
    }


def as_truth(game, nodes):
    return [node in nodes for node in range(game.size)]


class SolversTest(Case):
    def assert_tells(self, solver, game, expected):
        """The answer is this list of True and False, and the game is counted."""
        games = solver.games
        answer = solver.tells(game)
        self.assertIs(type(answer), list)
        self.assertEqual([type(each) for each in answer], [bool] * game.size)
        self.assertEqual(answer, expected)
        self.assertEqual(solver.games, games + 1)
        answer.append("more")
        self.assertEqual(solver.tells(game), expected)
        self.assertEqual(solver.games, games + 2)

    def test_classes(self):
        for each in (Taker, Climber, Holder, Follower):
            self.assertEqual(each.__bases__, (Solver,))
            self.assertIn("tells", vars(each))
        self.assertEqual(Solver.__bases__, (object,))
        for height in (1, 2, 3):
            for solver in one_of_each(height).values():
                self.assertIsInstance(solver, Solver)

    def test_attributes(self):
        for height in (1, 2, 3):
            for solver in one_of_each(height).values():
                self.assertEqual((solver.height, solver.games), (height, 0))
                for name in ("height", "games"):
                    self.assertIn(name, vars(solver))

    def test_bad_height(self):
        for height in (-1, 0, 4, 9):
            self.assert_raises(BadHeight, Solver, height)
            self.assert_raises(BadHeight, Taker, height)

    def test_small(self):
        game = Game(1, "ABB", [(0, 1, 1), (1, 0, 1), (2, 1, 2)])
        self.assertEqual(Solver(1).tells(game), [False, False, False])
        self.assertEqual(Taker(1).tells(game), [True, True, False])
        self.assertEqual(Climber(Ladder(1, [])).tells(game), [False, True, False])
        self.assertEqual(Climber(Ladder(1, [1])).tells(game), [True, True, False])
        self.assertEqual(Holder(Ladder(1, [])).tells(game), [False, True, False])
        self.assertEqual(Holder(Ladder(1, [1])).tells(game), [True, True, False])
        self.assertEqual(Follower(Watcher(1, [[0, None, 0]])).tells(game), [False, True, False])
        self.assertEqual(Follower(Watcher(1, [[0, 0, 0]])).tells(game), [True, True, True])

    def test_solver_and_taker(self):
        rng = drawn(63)
        for turn in range(45):
            height = turn % 3 + 1
            game = draw_game(rng, most_size=6, most_out=3, height=height)
            self.assert_tells(Solver(height), game, [False] * game.size)
            self.assert_tells(Taker(height), game, [winner == "A" for winner in slow_winners(game)])

    def test_climber(self):
        rng = drawn(630)
        for turn in range(60):
            height = turn % 3 + 1
            levels = draw_row(rng, height, 6)
            game, _ = draw_fitting_game(rng, height, levels)
            self.assert_tells(Climber(Ladder(height, levels)), game, as_truth(game, slow_told(game, levels)))

    def test_holder(self):
        rng = drawn(631)
        seen = set()
        for turn in range(30):
            height = turn % 3 + 1
            levels = draw_row(rng, height, 4)
            game, _ = draw_fitting_game(rng, height, levels, most_size=4 if height == 3 else 5, most_out=2)
            ladder = Ladder(height, levels)
            expected = as_truth(game, slow_told(game, levels))
            self.assertEqual(expected, [ladder in asked(game, node) for node in range(game.size)])
            self.assert_tells(Holder(ladder), game, expected)
            seen |= set(expected)
        self.assertEqual(seen, {True, False})

    def test_follower(self):
        rng = drawn(632)
        seen = set()
        for turn in range(60):
            height = turn % 3 + 1
            draw = draw_moves if turn % 2 else draw_good_moves
            moves = draw(rng, height, rng.randint(1, 9), 0.2)
            game = draw_game(rng, most_out=2, height=height)
            expected = [0 in states for states in slow_staying(game, moves)]
            self.assert_tells(Follower(Watcher(height, moves)), game, expected)
            seen |= set(expected)
        self.assertEqual(seen, {True, False})

    def test_height_mismatch(self):
        for height in (1, 2, 3):
            for name, solver in one_of_each(height).items():
                good = Game(height, "B", [(0, 0, 0)])
                solver.tells(good)
                for other in (1, 2, 3):
                    if other != height:
                        self.assert_raises(HeightMismatch, solver.tells, Game(other, "A", [(0, 0, 0)]))
                        self.assert_raises(HeightMismatch, solver.tells, full_game(other))
                        self.assertEqual(solver.games, 1, name)
                solver.tells(good)
                self.assertEqual((solver.games, solver.height), (2, height))

    def test_too_large_of_holder(self):
        for height, most in ((1, 5), (2, 5), (3, 4)):
            holder = Holder(Ladder(height, [1]))
            games = [Game(height, "B" * size, [(k, 0, k) for k in range(size)]) for size in range(1, 10)]
            for game in games:
                if game.size <= most:
                    self.assertEqual(holder.tells(game), [True] * game.size)
                else:
                    self.assert_raises(TooLarge, holder.tells, game)
                    self.assertEqual(holder.games, most)
            self.assert_raises(TooLarge, holder.tells, full_game(height))
            self.assertEqual(holder.games, most)

    def test_solvers_are_apart(self):
        ladder = Ladder(1, [1])
        one, other = Climber(ladder), Climber(ladder)
        one.tells(Game(1, "B", [(0, 0, 0)]))
        self.assertEqual((one.games, other.games), (1, 0))

    def test_limits(self):
        for height in (1, 2, 3):
            game, levels = full_game(height), long_levels(height)
            moves = [[(state + rank) % 9 for rank in range(2 * height + 1)] for state in range(9)]
            self.assert_tells(Solver(height), game, [False] * 9)
            self.assertEqual(len(Taker(height).tells(game)), 9)
            self.assert_tells(Climber(Ladder(height, levels)), game, as_truth(game, slow_told(game, levels)))
            self.assert_tells(Follower(Watcher(height, moves)), game, [True] * 9)
            most = 4 if height == 3 else 5
            largest = Game(height, "B" * most, [(k, rank, (k + 1) % most) for k in range(most)
                                                for rank in range(0, 2 * height + 1, 2)])
            self.assert_tells(Holder(Ladder(height, levels)), largest, as_truth(largest, slow_told(largest, levels)))
