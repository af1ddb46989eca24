"""Point [36]: row games."""

from ladderreach.climbing import climb, told_nodes
from ladderreach.errors import TooLarge
from ladderreach.games import Game
from ladderreach.holding import hold
from ladderreach.ladders import Ladder
from ladderreach.rowgames import row_game
from ladderreach.stands import stand
from ladderreach.winners import solve
from tests.helpers import Case, all_rows_up_to, draw_row, drawn, long_levels


def rows_with_up_to_8_levels(rng, height):
    rows = all_rows_up_to(height, 3)
    for count in range(4, 9):
        rows.extend(tuple(rng.randint(1, height) for _ in range(count)) for _ in range(4))
    return rows


class RowGameTest(Case):
    def test_examples(self):
        self.assertEqual(row_game(Ladder(2, [1, 2])).edges, ((0, 2, 1), (1, 1, 0), (1, 4, 2), (2, 3, 1)))
        self.assertEqual(stand(row_game(Ladder(2, [1, 2]))), ((1, 2), [0, 1, 2]))

    def test_without_levels(self):
        for height in (1, 2, 3):
            self.assertEqual(row_game(Ladder(height, [])), Game(height, "B", [(0, 0, 0)]))

    def test_nodes_owners_and_edges(self):
        rng = drawn(36)
        for height in (1, 2, 3):
            for row in rows_with_up_to_8_levels(rng, height):
                game = row_game(Ladder(height, row))
                self.assertIs(type(game), Game)
                self.assertEqual((game.height, game.size, game.owners),
                                 (height, len(row) + 1, "B" * (len(row) + 1)))
                edges = [(k, 2 * level, k + 1) for k, level in enumerate(row)]
                edges += [(k + 1, 2 * level - 1, k) for k, level in enumerate(row)]
                self.assertEqual(list(game.edges), sorted(edges) or [(0, 0, 0)])

    def test_too_large(self):
        for height in (1, 2, 3):
            levels = long_levels(height)
            self.assertEqual(row_game(Ladder(height, levels[:8])).size, 9)
            for count in range(9, 25):
                self.assert_raises(TooLarge, row_game, Ladder(height, levels[:count]))

    def test_stand_and_winners(self):
        rng = drawn(360)
        for height in (1, 2, 3):
            for row in rows_with_up_to_8_levels(rng, height):
                game = row_game(Ladder(height, row))
                self.assertEqual(stand(game), (row, list(range(len(row) + 1))))
                self.assertEqual(solve(game)[0], "A" * len(game.owners))

    def test_ladders_that_hold_the_row_and_others(self):
        rng = drawn(361)
        seen = {True: 0, False: 0}
        for height in (1, 2, 3):
            for _ in range(120):
                row = draw_row(rng, height, rng.choice((2, 4, 8)))
                ladder = Ladder(height, draw_row(rng, height, rng.choice((4, 10, 24))))
                game = row_game(Ladder(height, row))
                steps = hold(ladder, row)
                seen[steps is None] += 1
                if steps is None:
                    self.assertEqual(climb(game, ladder), [None] * game.size)
                    self.assertEqual(told_nodes(game, ladder), [])
                else:
                    self.assertEqual(climb(game, ladder), steps)
                    self.assertEqual(told_nodes(game, ladder), list(range(game.size)))
        self.assertGreater(min(seen.values()), 50)

    def test_limits(self):
        for height in (1, 2, 3):
            levels = long_levels(height)
            game = row_game(Ladder(height, levels[16:]))
            self.assertEqual(climb(game, Ladder(height, levels)), hold(Ladder(height, levels), levels[16:]))
