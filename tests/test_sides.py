"""Point [32]: what two ladders tell of the two players."""

from ladderreach.errors import BadHeight, HeightMismatch
from ladderreach.games import Game
from ladderreach.ladders import Ladder
from ladderreach.sides import both_sides
from ladderreach.winners import solve
from tests.helpers import Case, draw_game, draw_row, drawn, full_game, long_levels, slow_told


class BothSidesTest(Case):
    def test_small(self):
        game = Game(1, "BBA", [(0, 1, 1), (1, 2, 0), (2, 1, 2)])
        self.assertEqual(both_sides(game, Ladder(1, [1]), Ladder(2, [])), "AAB")
        self.assertEqual(both_sides(game, Ladder(1, []), Ladder(2, [])), "??B")
        game = Game(1, "A", [(0, 0, 0)])
        self.assertEqual(both_sides(game, Ladder(1, []), Ladder(2, [2, 1, 2])), "A")

    def test_drawn_games(self):
        rng = drawn(32)
        seen = {"A": 0, "B": 0, "?": 0}
        for turn in range(200):
            height = turn % 2 + 1
            game = draw_game(rng, most_out=3, height=height)
            levels, other_levels = draw_row(rng, height, 8), draw_row(rng, height + 1, 8)
            sides = both_sides(game, Ladder(height, levels), Ladder(height + 1, other_levels))
            self.assertIs(type(sides), str)
            told = slow_told(game, levels)
            told_in_mirror = slow_told(game.mirrored(), other_levels)
            self.assertEqual(set(told) & set(told_in_mirror), set())
            expected = ["A" if node in told else "B" if node in told_in_mirror else "?" for node in range(game.size)]
            self.assertEqual(sides, "".join(expected))
            winners, _ = solve(game)
            for side, winner in zip(sides, winners):
                self.assertIn(side, (winner, "?"))
                seen[side] += 1
        self.assertGreater(min(seen.values()), 50)

    def test_bad_height_ahead_of_height_mismatch(self):
        game = Game(3, "A", [(0, 0, 0)])
        for height in (1, 2, 3):
            for other in (1, 2, 3):
                self.assert_raises(BadHeight, both_sides, game, Ladder(height, []), Ladder(other, []))

    def test_height_mismatch(self):
        for height in (1, 2):
            game = Game(height, "A", [(0, 0, 0)])
            for one in (1, 2, 3):
                for other in (1, 2, 3):
                    if (one, other) == (height, height + 1):
                        self.assertEqual(both_sides(game, Ladder(one, []), Ladder(other, [])), "A")
                    else:
                        self.assert_raises(HeightMismatch, both_sides, game, Ladder(one, []), Ladder(other, []))

    def test_limits(self):
        for height in (1, 2):
            game = full_game(height)
            levels, other_levels = long_levels(height), long_levels(height + 1)
            sides = both_sides(game, Ladder(height, levels), Ladder(height + 1, other_levels))
            told, told_in_mirror = slow_told(game, levels), slow_told(game.mirrored(), other_levels)
            expected = ["A" if node in told else "B" if node in told_in_mirror else "?" for node in range(9)]
            self.assertEqual(sides, "".join(expected))
