"""Point [10]: games put together."""

from ladderreach.combine import all_of, either, side_by_side
from ladderreach.errors import HeightMismatch, NoSuchNode, TooLarge
from ladderreach.games import Game
from tests.helpers import Case, all_edges, draw_game, drawn, full_game


def one():
    return Game(1, "A", [(0, 1, 0)])


def two():
    return Game(1, "BA", [(0, 0, 1), (1, 2, 0), (1, 0, 1)])


def wide(size, count, height=1):
    """A game with this many nodes and edges."""
    loops = [(node, 0, node) for node in range(size)]
    more = [edge for edge in all_edges(height, size) if edge not in loops]
    return Game(height, "B" * size, loops + more[:count - size])


class SideBySideTest(Case):
    def test_one_game(self):
        game = two()
        new = side_by_side(game)
        self.assertEqual(new, game)
        self.assertIs(type(new), Game)

    def test_several_games(self):
        three = Game(1, "ABB", [(0, 0, 2), (1, 1, 1), (2, 2, 0)])
        new = side_by_side(two(), one(), three)
        self.assertEqual((new.height, new.owners), (1, "BAAABB"))
        self.assertEqual(new.edges, (
            (0, 0, 1), (1, 0, 1), (1, 2, 0), (2, 1, 2), (3, 0, 5), (4, 1, 4), (5, 2, 3),
        ))

    def test_the_same_game_twice(self):
        game = two()
        new = side_by_side(game, game)
        self.assertEqual(new, Game(1, "BABA", [
            (0, 0, 1), (1, 2, 0), (1, 0, 1), (2, 0, 3), (3, 2, 2), (3, 0, 3),
        ]))
        self.assertEqual(game, two())

    def test_height_mismatch(self):
        high = Game(2, "A", [(0, 1, 0)])
        self.assert_raises(HeightMismatch, side_by_side, one(), high)
        self.assert_raises(HeightMismatch, side_by_side, one(), one(), high)
        self.assert_raises(HeightMismatch, side_by_side, high, one(), high)
        self.assert_raises(HeightMismatch, side_by_side, full_game(1), full_game(2))

    def test_too_large(self):
        self.assertEqual(side_by_side(wide(4, 4), wide(5, 5)).size, 9)
        self.assert_raises(TooLarge, side_by_side, wide(5, 5), wide(5, 5))
        self.assert_raises(TooLarge, side_by_side, full_game(3), full_game(3))
        self.assertEqual(len(side_by_side(wide(5, 40), wide(4, 23)).edges), 63)
        self.assert_raises(TooLarge, side_by_side, wide(5, 40), wide(4, 24))

    def test_limits(self):
        for height in (1, 2, 3):
            self.assertEqual(side_by_side(full_game(height)), full_game(height))
        loops = [Game(2, "B", [(0, rank, 0) for rank in range(5)])] * 9
        new = side_by_side(*loops)
        self.assertEqual((new.owners, len(new.edges)), ("B" * 9, 45))
        self.assertEqual(new.out(8), tuple((8, rank, 8) for rank in range(5)))
        self.assert_raises(TooLarge, side_by_side, *(loops + loops[:1]))

    def test_drawn_games(self):
        rng = drawn(10)
        for _ in range(60):
            height = rng.randint(1, 3)
            games = [draw_game(rng, 3, 5, height) for _ in range(rng.randint(1, 3))]
            new = side_by_side(*games)
            self.assertEqual(new.owners, "".join(game.owners for game in games))
            edges = []
            for k, game in enumerate(games):
                before = sum(other.size for other in games[:k])
                edges.extend((edge[0] + before, edge[1], edge[2] + before) for edge in game.edges)
            self.assertEqual(list(new.edges), edges)
            self.assertEqual(new.height, height)


class ChoiceTest(Case):
    def test_one_position(self):
        self.assertEqual(either((one(), 0)), Game(1, "AA", [(0, 2, 1), (1, 1, 1)]))
        self.assertEqual(all_of((one(), 0)), Game(1, "BA", [(0, 2, 1), (1, 1, 1)]))
        self.assertIs(type(either((one(), 0))), Game)
        self.assertIs(type(all_of((one(), 0))), Game)

    def test_several_positions(self):
        edges = [
            (0, 2, 2), (0, 2, 3), (0, 2, 4),
            (1, 0, 2), (2, 2, 1), (2, 0, 2), (3, 1, 3), (4, 0, 5), (5, 2, 4), (5, 0, 5),
        ]
        positions = [(two(), 1), (one(), 0), (two(), 0)]
        self.assertEqual(either(*positions), Game(1, "ABAABA", edges))
        self.assertEqual(all_of(*positions), Game(1, "BBAABA", edges))

    def test_the_same_position_twice(self):
        game = two()
        edges = [(0, 2, 2), (0, 2, 4), (1, 0, 2), (2, 2, 1), (2, 0, 2), (3, 0, 4), (4, 2, 3), (4, 0, 4)]
        self.assertEqual(either((game, 1), (game, 1)), Game(1, "ABABA", edges))
        self.assertEqual(all_of((game, 1), (game, 1)), Game(1, "BBABA", edges))
        self.assertEqual(game, two())

    def test_rank_is_twice_the_height(self):
        for height in (1, 2, 3):
            loop = Game(height, "B", [(0, 0, 0)])
            self.assertEqual(either((loop, 0)).out(0), ((0, 2 * height, 1),))
            self.assertEqual(all_of((loop, 0)).out(0), ((0, 2 * height, 1),))
            self.assertEqual(all_of((loop, 0)).height, height)

    def test_height_mismatch_comes_first(self):
        high = Game(2, "A", [(0, 1, 0)])
        for call in (either, all_of):
            self.assert_raises(HeightMismatch, call, (one(), 0), (high, 0))
            self.assert_raises(HeightMismatch, call, (one(), 5), (high, 0))
            self.assert_raises(HeightMismatch, call, (one(), 0), (one(), 0), (high, 1))
            self.assert_raises(HeightMismatch, call, (full_game(1), 0), (full_game(2), 9))

    def test_no_such_node_comes_second(self):
        for call in (either, all_of):
            self.assert_raises(NoSuchNode, call, (one(), 1), has={"node": 1})
            self.assert_raises(NoSuchNode, call, (two(), 1), (one(), -1), (one(), 7), has={"node": -1})
            self.assert_raises(NoSuchNode, call, (two(), 2), (one(), 7), has={"node": 2})
            self.assert_raises(NoSuchNode, call, (full_game(2), 8), (full_game(2), 9), has={"node": 9})

    def test_too_many_nodes(self):
        for call in (either, all_of):
            self.assertEqual(call((wide(4, 4), 0), (wide(4, 4), 3)).size, 9)
            self.assert_raises(TooLarge, call, (wide(4, 4), 0), (wide(5, 5), 3))
            self.assertEqual(call((wide(8, 8), 7)).size, 9)
            self.assert_raises(TooLarge, call, (wide(9, 9), 0))
            self.assert_raises(TooLarge, call, (full_game(3), 0))

    def test_too_many_edges(self):
        for call in (either, all_of):
            self.assertEqual(len(call((wide(8, 62), 7)).edges), 63)
            self.assert_raises(TooLarge, call, (wide(8, 63), 7))
            self.assertEqual(len(call((wide(4, 31), 0), (wide(4, 30), 0)).edges), 63)
            self.assert_raises(TooLarge, call, (wide(4, 31), 0), (wide(4, 31), 0))

    def test_drawn_positions(self):
        rng = drawn(11)
        for _ in range(60):
            height = rng.randint(1, 3)
            games = [draw_game(rng, 2, 5, height) for _ in range(rng.randint(1, 4))]
            positions = [(game, rng.randrange(game.size)) for game in games]
            edges, start = [], 1
            for game, node in positions:
                edges.append((0, 2 * height, start + node))
                edges.extend((edge[0] + start, edge[1], edge[2] + start) for edge in game.edges)
                start += game.size
            owners = "".join(game.owners for game in games)
            self.assertEqual(either(*positions), Game(height, "A" + owners, edges))
            self.assertEqual(all_of(*positions), Game(height, "B" + owners, edges))
