"""Point [46]: where A can keep a watcher from going off."""

from ladderreach.errors import HeightMismatch
from ladderreach.games import Game
from ladderreach.staying import staying, watched_nodes
from ladderreach.watchers import Watcher, false_win
from ladderreach.winners import solve
from tests.drawnmachines import draw_good_moves, draw_moves, draw_watchers, reachable_states, slow_staying
from tests.helpers import Case, draw_game, drawn, full_game


class StayingTest(Case):
    def test_small(self):
        # Ranks 1 and 2 lead from one state to the other, if they are read in turn.
        watcher = Watcher(1, [[0, 1, None], [1, None, 0]])
        self.assertEqual(staying(Game(1, "A", [(0, 0, 0)]), watcher), [[0, 1]])
        self.assertEqual(staying(Game(1, "A", [(0, 1, 0)]), watcher), [[]])
        self.assertEqual(staying(Game(1, "A", [(0, 2, 0)]), watcher), [[]])
        self.assertEqual(staying(Game(1, "BB", [(0, 1, 1), (1, 2, 0)]), watcher), [[0], [1]])

    def test_owners(self):
        watcher = Watcher(1, [[0, None, None]])
        edges = [(0, 0, 0), (0, 1, 0)]
        self.assertEqual(staying(Game(1, "A", edges), watcher), [[0]])
        self.assertEqual(staying(Game(1, "B", edges), watcher), [[]])

    def test_against_taking_pairs_away(self):
        rng = drawn(46)
        seen = {"none": 0, "all": 0, "some": 0}
        for height, moves in draw_watchers(rng, 210):
            game = draw_game(rng, most_out=3, height=height)
            expected = slow_staying(game, moves)
            found = staying(game, Watcher(height, moves))
            self.assertEqual(found, expected)
            self.assertEqual([type(states) for states in found], [list] * game.size)
            for states in found:
                seen["none" if not states else "all" if len(states) == len(moves) else "some"] += 1
        self.assertGreater(min(seen.values()), 100)

    def test_states_that_are_not_reachable(self):
        watcher = Watcher(1, [[None, None, None], [1, 2, 1], [1, None, None]])
        self.assertEqual(staying(Game(1, "AB", [(0, 0, 0), (1, 1, 0)]), watcher), [[1, 2], [1]])
        rng = drawn(460)
        found = 0
        for height, moves in draw_watchers(rng, 100):
            game = draw_game(rng, most_out=2, height=height)
            reachable = reachable_states(moves)
            for states in staying(game, Watcher(height, moves)):
                found += any(state not in reachable for state in states)
        self.assertGreater(found, 20)

    def test_a_state_that_goes_off_everywhere(self):
        watcher = Watcher(2, [[None] * 5, [1] * 5])
        for game in (Game(2, "A", [(0, 4, 0)]), Game(2, "B", [(0, 4, 0), (0, 3, 0)])):
            self.assertEqual(staying(game, watcher), [[1]])

    def test_lists_are_new(self):
        game, watcher = Game(1, "BB", [(0, 1, 1), (1, 0, 1)]), Watcher(1, [[0, 1, None], [1, None, 0]])
        found = staying(game, watcher)
        self.assertEqual(found, [[0], [0, 1]])
        found[0].append(5)
        found[1].clear()
        found.append([])
        self.assertEqual(staying(game, watcher), [[0], [0, 1]])
        watched_nodes(game, watcher).append(7)
        self.assertEqual(watched_nodes(game, watcher), [0, 1])

    def test_limits(self):
        rng = drawn(461)
        for height in (1, 2, 3):
            game = full_game(height)
            for moves in (draw_moves(rng, height, 9, 0), draw_moves(rng, height, 9, 0.1),
                          draw_good_moves(rng, height, 9, 0)):
                self.assertEqual(staying(game, Watcher(height, moves)), slow_staying(game, moves))
            # A watcher that counts up to its last state and goes off there: one round takes one state away.
            moves = [[state + 1 if state < 8 else None] * (2 * height + 1) for state in range(9)]
            self.assertEqual(staying(game, Watcher(height, moves)), [[]] * 9)
            moves[8] = [8] * (2 * height + 1)
            self.assertEqual(staying(game, Watcher(height, moves)), [list(range(9))] * 9)

    def test_height_mismatch(self):
        game, watcher = Game(1, "B", [(0, 1, 0)]), Watcher(2, [[0] * 5])
        self.assert_raises(HeightMismatch, staying, game, watcher)
        self.assert_raises(HeightMismatch, watched_nodes, game, watcher)
        self.assert_raises(HeightMismatch, staying, full_game(3), watcher)
        self.assert_raises(HeightMismatch, watched_nodes, full_game(3), watcher)


class WatchedNodesTest(Case):
    def test_small(self):
        watcher = Watcher(1, [[0, 1, None], [1, None, 0]])
        self.assertEqual(watched_nodes(Game(1, "BB", [(0, 1, 1), (1, 2, 0)]), watcher), [0])
        self.assertEqual(watched_nodes(Game(1, "BB", [(0, 1, 1), (1, 0, 0)]), watcher), [])
        self.assertEqual(watched_nodes(Game(1, "BA", [(0, 0, 1), (1, 0, 0)]), watcher), [0, 1])

    def test_against_the_slow_answer(self):
        rng = drawn(462)
        told = 0
        for height, moves in draw_watchers(rng, 150):
            game = draw_game(rng, most_out=2, height=height)
            expected = [node for node, states in enumerate(slow_staying(game, moves)) if 0 in states]
            found = watched_nodes(game, Watcher(height, moves))
            self.assertEqual(found, expected)
            self.assertIs(type(found), list)
            told += found != []
        self.assertGreater(told, 40)

    def test_without_a_false_win_only_nodes_of_a(self):
        rng = drawn(463)
        told = 0
        for height, moves in draw_watchers(rng, 150):
            watcher = Watcher(height, moves)
            if false_win(watcher) is None:
                game = draw_game(rng, most_out=2, height=height)
                winners, _ = solve(game)
                for node in watched_nodes(game, watcher):
                    self.assertEqual(winners[node], "A")
                    told += 1
        self.assertGreater(told, 50)
