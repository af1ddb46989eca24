"""Point [50]: the first ladders that reach far enough, or that tell enough of some games."""

from ladderreach.errors import BadHeight, BadSize, HeightMismatch, TooLarge
from ladderreach.games import Game
from ladderreach.ladders import Ladder
from ladderreach.leasts import least_ladder, shortest_for
from ladderreach.reaching import reach
from ladderreach.rowgames import row_game
from ladderreach.sizes import floor_steps
from tests.helpers import (
    Case, all_edges, all_rows_up_to, draw_game, draw_standing_web, drawn, full_game, marked_holds, slow_lacking,
    slow_told, slow_winners,
)

MOST_COUNTS = {1: 9, 2: 4, 3: 3}


def searched_ladder(height, count):
    """The first row, in the order of rows, of a ladder that holds all rows with one level less than the count."""
    for levels in all_rows_up_to(height, 8):
        if slow_lacking(levels, height, count, marked_holds) is None:
            return levels
    raise AssertionError("there is such a ladder")


def searched_for(games):
    """The first row, in the order of rows, of a ladder that tells all that A wins in the games."""
    won = [[node for node, winner in enumerate(slow_winners(game)) if winner == "A"] for game in games]
    for levels in all_rows_up_to(games[0].height, 6):
        if all(slow_told(game, levels) == nodes for game, nodes in zip(games, won)):
            return levels
    raise AssertionError("there is such a ladder")


class LeastLadderTest(Case):
    def test_against_a_search(self):
        for height in (1, 2, 3):
            for count in range(1, MOST_COUNTS[height] + 1):
                ladder = least_ladder(height, count)
                self.assertIs(type(ladder), Ladder)
                self.assertEqual(ladder.height, height)
                self.assertEqual(ladder.levels, searched_ladder(height, count))
                self.assertEqual(ladder.top + 1, floor_steps(height, count))
                self.assertGreaterEqual(reach(ladder), count)

    def test_small(self):
        self.assertEqual(least_ladder(1, 1), Ladder(1, []))
        self.assertEqual(least_ladder(1, 9), Ladder(1, [1] * 8))
        self.assertEqual(least_ladder(2, 2), Ladder(2, [1, 2]))
        self.assertEqual(least_ladder(2, 4), Ladder(2, [1, 2, 2, 1, 1, 1, 2]))
        self.assertEqual(least_ladder(3, 3), Ladder(3, [3, 2, 1, 1, 2, 3]))

    def test_errors_in_order(self):
        for height in (-1, 0, 4):
            for count in (-1, 0, 1, 3, 10):
                self.assert_raises(BadHeight, least_ladder, height, count)
        for height in (1, 2, 3):
            for count in (0, -1, -20):
                self.assert_raises(BadSize, least_ladder, height, count)
            for count in (MOST_COUNTS[height] + 1, MOST_COUNTS[height] + 2, 26, 100):
                self.assert_raises(TooLarge, least_ladder, height, count)


class ShortestForTest(Case):
    def test_small(self):
        loop, two = Game(1, "B", [(0, 0, 0)]), Game(1, "BB", [(0, 1, 1), (1, 2, 0)])
        self.assertEqual(shortest_for(loop), Ladder(1, []))
        self.assertEqual(shortest_for(two), Ladder(1, [1]))
        self.assertEqual(shortest_for(loop, two, loop), Ladder(1, [1]))
        self.assertEqual(shortest_for(Game(1, "B", [(0, 1, 0)])), Ladder(1, []))
        self.assertEqual(shortest_for(Game(2, "AB", [(0, 3, 1), (1, 4, 0), (1, 1, 1)])), Ladder(2, []))
        self.assertEqual(shortest_for(Game(2, "AB", [(0, 3, 1), (1, 4, 0)])), Ladder(2, [2]))

    def test_row_games(self):
        one, other = row_game(Ladder(2, [1, 2])), row_game(Ladder(2, [2, 1]))
        self.assertEqual(shortest_for(one), Ladder(2, [1, 2]))
        self.assertEqual(shortest_for(other), Ladder(2, [2, 1]))
        self.assertEqual(shortest_for(one, other), Ladder(2, [1, 2, 1]))
        self.assertEqual(shortest_for(other, one), Ladder(2, [1, 2, 1]))
        games = [row_game(Ladder(2, row)) for row in ([1, 1], [1, 2], [2, 1], [2, 2])]
        # Only a ladder that holds all rows of two levels tells these four games.
        self.assertEqual(shortest_for(*games), least_ladder(2, 3))
        self.assertEqual(shortest_for(*games[::-1]), Ladder(2, [2, 1, 1, 2]))

    def test_against_a_search(self):
        rng = drawn(50)
        lengths = {}
        for turn in range(200):
            height = turn % 2 + 1
            games = [draw_small_game(rng, height) for _ in range(rng.randint(1, 4))]
            ladder = shortest_for(*games)
            self.assertIs(type(ladder), Ladder)
            self.assertEqual(ladder.height, height)
            self.assertEqual(ladder.levels, searched_for(games))
            lengths[ladder.top] = lengths.get(ladder.top, 0) + 1
        self.assertGreater(min(lengths.get(count, 0) for count in (0, 1, 2, 3)), 5, lengths)

    def test_limits(self):
        for height in (1, 2):
            edges = all_edges(height, 3)
            games = [Game(height, owners, edges) for owners in ("AAA", "ABA", "BBA", "BBB")]
            self.assertEqual(shortest_for(*games).levels, searched_for(games))
            small, four = Game(height, "B", [(0, 0, 0)]), Game(height, "BBBB", [(k, 0, k) for k in range(4)])
            self.assert_raises(TooLarge, shortest_for, four)
            self.assert_raises(TooLarge, shortest_for, small, four)
            self.assert_raises(TooLarge, shortest_for, small, small, small, four)
            self.assert_raises(TooLarge, shortest_for, four, small)
            self.assert_raises(TooLarge, shortest_for, full_game(height))
        three = Game(3, "B", [(0, 0, 0)])
        self.assert_raises(TooLarge, shortest_for, three)
        self.assert_raises(TooLarge, shortest_for, three, three)
        self.assert_raises(TooLarge, shortest_for, full_game(3))

    def test_height_mismatch_ahead_of_too_large(self):
        one, two, three = [Game(height, "B", [(0, 0, 0)]) for height in (1, 2, 3)]
        self.assert_raises(HeightMismatch, shortest_for, one, two)
        self.assert_raises(HeightMismatch, shortest_for, one, one, one, two)
        self.assert_raises(HeightMismatch, shortest_for, three, two)
        self.assert_raises(HeightMismatch, shortest_for, two, three)
        self.assert_raises(HeightMismatch, shortest_for, full_game(1), one, two)
        self.assert_raises(HeightMismatch, shortest_for, full_game(3), full_game(2))


def draw_small_game(rng, height):
    """A game of at most 3 nodes; many of them are even, so that a ladder needs levels to tell them."""
    chance = rng.random()
    if chance < 0.3:
        return draw_game(rng, most_size=3, most_out=3, height=height)
    if chance < 0.6:
        return row_game(Ladder(height, [rng.randint(1, height) for _ in range(2)]))
    while True:
        size = rng.randint(1, 3)
        web = draw_standing_web(rng, height, size, 8)
        if {edge[0] for edge in web.edges} == set(range(size)):
            return Game(height, "".join(rng.choice("BBA") for _ in range(size)), web.edges)
