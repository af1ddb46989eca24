"""Point [19]: certificates."""

from ladderreach.certificates import certify
from ladderreach.errors import BadHeight
from ladderreach.games import Game
from ladderreach.ladders import Ladder
from ladderreach.winners import solve
from tests.helpers import Case, draw_game, drawn, fits, full_game, slow_winners


class CertifyTest(Case):
    def assert_side(self, game, winners, winner, row, placement):
        """The placement has a step exactly where the winner wins, and fits the game."""
        count = winners.count(winner)
        self.assertIs(type(row), tuple)
        self.assertIs(type(placement), list)
        self.assertLessEqual(len(row), max(count - 1, 0))
        ladder = Ladder(game.height, row)
        self.assertEqual(len(placement), game.size)
        for node in range(game.size):
            if winners[node] == winner:
                self.assertIn(placement[node], range(ladder.top + 1))
            else:
                self.assertIsNone(placement[node])
        self.assertTrue(fits(game, row, placement))

    def assert_certified(self, game, winners):
        answer = certify(game)
        self.assertIs(type(answer), tuple)
        row, placement, other_row, other_placement = answer
        self.assert_side(game, winners, "A", row, placement)
        self.assert_side(game.mirrored(), winners, "B", other_row, other_placement)
        for node in range(game.size):
            self.assertEqual([placement[node], other_placement[node]].count(None), 1)

    def test_one_node(self):
        for owner in "AB":
            self.assertEqual(certify(Game(1, owner, [(0, 0, 0)])), ((), [0], (), [None]))
            self.assertEqual(certify(Game(1, owner, [(0, 1, 0)])), ((), [None], (), [0]))
            self.assertEqual(certify(Game(2, owner, [(0, 3, 0)])), ((), [None], (), [0]))
            self.assertEqual(certify(Game(2, owner, [(0, 4, 0)])), ((), [0], (), [None]))

    def test_a_wins_all(self):
        game = Game(1, "BB", [(0, 1, 1), (1, 2, 0)])
        self.assertEqual(certify(game), ((1,), [1, 0], (), [None, None]))

    def test_b_wins_all(self):
        game = Game(1, "AA", [(0, 0, 1), (1, 1, 0)])
        row, placement, other_row, other_placement = certify(game)
        self.assertEqual((row, placement), ((), [None, None]))
        self.assert_certified(game, "BB")

    def test_both_win(self):
        game = Game(2, "ABAA", [(0, 4, 1), (1, 3, 0), (1, 0, 2), (2, 1, 2), (3, 2, 3), (3, 3, 0)])
        self.assert_certified(game, "BBBA")

    def test_height_3(self):
        self.assert_raises(BadHeight, certify, Game(3, "A", [(0, 0, 0)]))
        self.assert_raises(BadHeight, certify, Game(3, "A", [(0, 1, 0)]))
        self.assert_raises(BadHeight, certify, full_game(3))

    def test_drawn_small_games(self):
        rng = drawn(19)
        for height in (1, 2):
            for _ in range(80):
                game = draw_game(rng, 4, 3, height)
                self.assert_certified(game, slow_winners(game))

    def test_drawn_games(self):
        rng = drawn(20)
        for height in (1, 2):
            for most_out in (1, 2, 3, 7):
                for _ in range(30):
                    game = draw_game(rng, 9, most_out, height)
                    self.assert_certified(game, solve(game)[0])

    def test_full_games(self):
        for height in (1, 2):
            game = full_game(height)
            self.assert_certified(game, solve(game)[0])

    def test_new_lists_each_time(self):
        game = Game(1, "BB", [(0, 1, 1), (1, 2, 0)])
        answer = certify(game)
        answer[1].clear()
        answer[3].clear()
        self.assertEqual(certify(game), ((1,), [1, 0], (), [None, None]))
