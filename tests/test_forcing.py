"""Point [15]: forced visits."""

import functools

from ladderreach.errors import NoSuchNode
from ladderreach.forcing import force
from ladderreach.games import Game
from tests.helpers import Case, draw_game, drawn, full_game


def slow_force(game, player, targets):
    """The least number of moves, by trying all walks of each length."""
    @functools.lru_cache(None)
    def forces(node, moves):
        if node in targets:
            return True
        if moves == 0:
            return False
        nexts = [forces(edge[2], moves - 1) for edge in game.edges if edge[0] == node]
        return any(nexts) if game.owners[node] == player else all(nexts)

    return [min((n for n in range(game.size + 1) if forces(node, n)), default=None) for node in range(game.size)]


class ForceTest(Case):
    def test_owner_takes_the_least(self):
        game = Game(1, "AAAA", [(0, 0, 1), (0, 0, 2), (1, 0, 2), (2, 0, 3), (3, 0, 3)])
        self.assertEqual(force(game, "A", [3]), [2, 2, 1, 0])
        self.assertEqual(force(game, "B", [3]), [3, 2, 1, 0])

    def test_the_other_player_takes_the_greatest(self):
        game = Game(1, "BAA", [(0, 0, 1), (0, 0, 2), (1, 0, 2), (2, 0, 2)])
        self.assertEqual(force(game, "A", [2]), [2, 1, 0])
        self.assertEqual(force(game, "B", [2]), [1, 1, 0])

    def test_not_forced(self):
        game = Game(1, "BAB", [(0, 0, 0), (0, 2, 2), (1, 0, 0), (1, 1, 1), (2, 0, 2)])
        self.assertEqual(force(game, "A", [2]), [None, None, 0])
        self.assertEqual(force(game, "B", [2]), [1, None, 0])
        self.assertEqual(force(game, "B", [0]), [0, None, None])
        self.assertEqual(force(game, "A", [0]), [0, 1, None])

    def test_a_target_has_0_whatever_its_edges(self):
        game = Game(1, "AB", [(0, 0, 1), (1, 0, 0)])
        self.assertEqual(force(game, "A", [0]), [0, 1])
        self.assertEqual(force(game, "A", [0, 1]), [0, 0])

    def test_no_targets(self):
        for player in "AB":
            self.assertEqual(force(full_game(2), player, []), [None] * 9)
            self.assertEqual(force(full_game(2), player, ()), [None] * 9)

    def test_list_tuple_and_equal_targets(self):
        game = Game(1, "AAB", [(0, 0, 1), (1, 0, 2), (2, 0, 2), (2, 0, 0)])
        targets = [2, 0, 2]
        self.assertEqual(force(game, "A", targets), [0, 1, 0])
        self.assertEqual(targets, [2, 0, 2])
        self.assertEqual(force(game, "A", (2, 0, 2)), [0, 1, 0])
        self.assertEqual(force(game, "A", [0, 2]), [0, 1, 0])

    def test_no_such_node(self):
        game = Game(1, "AB", [(0, 0, 1), (1, 0, 0)])
        for player in "AB":
            self.assert_raises(NoSuchNode, force, game, player, [0, 2, -1], has={"node": 2})
            self.assert_raises(NoSuchNode, force, game, player, (-1, 2), has={"node": -1})
        self.assert_raises(NoSuchNode, force, full_game(1), "A", [8, 9], has={"node": 9})

    def test_new_list_each_time(self):
        game = Game(1, "AB", [(0, 0, 1), (1, 0, 0)])
        force(game, "A", [0]).clear()
        self.assertEqual(force(game, "A", [0]), [0, 1])

    def test_a_chain_of_nine_nodes(self):
        for owners in ("A" * 9, "B" * 9, "ABABABABA"):
            game = Game(1, owners, [(node, 0, max(node - 1, 0)) for node in range(9)])
            for player in "AB":
                self.assertEqual(force(game, player, [0]), list(range(9)))

    def test_drawn_games(self):
        rng = drawn(15)
        for _ in range(300):
            game = draw_game(rng, most_out=rng.choice((2, 3, 7)))
            targets = [rng.randrange(game.size) for _ in range(rng.randint(0, 3))]
            for player in "AB":
                self.assertEqual(force(game, player, targets), slow_force(game, player, targets))

    def test_full_games(self):
        for height in (1, 2, 3):
            for target in range(9):
                for player in "AB":
                    right = slow_force(full_game(height), player, [target])
                    self.assertEqual(force(full_game(height), player, [target]), right)
