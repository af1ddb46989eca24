"""Points [7] and [17]: winners."""

from ladderreach.combine import side_by_side
from ladderreach.games import Game
from ladderreach.plans import judge
from ladderreach.winners import solve
from tests.helpers import Case, all_edges, draw_game, drawn, full_game, slow_winners, wins_for


class SolveTest(Case):
    def assert_solved(self, game):
        answer = solve(game)
        self.assertIs(type(answer), tuple)
        winners, plan = answer
        self.assertIs(type(winners), str)
        self.assertIs(type(plan), list)
        self.assertEqual((len(winners), len(plan)), (game.size, game.size))
        for node in range(game.size):
            self.assertIn(winners[node], ("A", "B"))
            if winners[node] == game.owners[node]:
                self.assertIn(plan[node], game.out(node))
            else:
                self.assertIsNone(plan[node])
        for player in "AB":
            nodes = [node for node in range(game.size) if winners[node] == player]
            self.assertTrue(wins_for(game, player, nodes, plan))
            self.assertIsNone(judge(game, player, nodes, plan))
        return winners

    def test_loops(self):
        for rank in range(7):
            for owner in "AB":
                winner = "A" if rank % 2 == 0 else "B"
                game = Game(3, owner, [(0, rank, 0)])
                self.assertEqual(solve(game), (winner, [(0, rank, 0) if owner == winner else None]))

    def test_choices(self):
        for owner in "AB":
            game = Game(2, owner, [(0, 0, 0), (0, 1, 0), (0, 4, 0), (0, 3, 0)])
            self.assertEqual(self.assert_solved(game), owner)

    def test_small_games(self):
        self.assertEqual(self.assert_solved(Game(1, "BB", [(0, 1, 1), (1, 2, 0)])), "AA")
        self.assertEqual(self.assert_solved(Game(1, "BB", [(0, 1, 1), (1, 2, 0), (1, 0, 0)])), "BB")
        self.assertEqual(self.assert_solved(Game(1, "BA", [(0, 1, 1), (1, 2, 0), (1, 0, 0)])), "AA")
        game = Game(2, "ABA", [(0, 0, 1), (1, 3, 0), (1, 0, 2), (2, 2, 2), (0, 4, 2)])
        self.assertEqual(self.assert_solved(game), "AAA")
        game = Game(2, "ABAA", [(0, 4, 1), (1, 3, 0), (1, 0, 2), (2, 1, 2), (3, 2, 3), (3, 3, 0)])
        self.assertEqual(self.assert_solved(game), "BBBA")

    def test_all_games_with_one_rank_per_node_and_two_nodes(self):
        for owners in ("AA", "AB", "BA", "BB"):
            for first in all_edges(1, 2)[:6]:
                for second in all_edges(1, 2)[6:]:
                    game = Game(1, owners, [first, second])
                    self.assertEqual(self.assert_solved(game), slow_winners(game))

    def test_drawn_small_games(self):
        rng = drawn(17)
        seen = set()
        for height in (1, 2, 3):
            for _ in range(150):
                game = draw_game(rng, most_size=5, most_out=3, height=height)
                self.assertEqual(self.assert_solved(game), slow_winners(game))
                seen |= set(zip(game.owners, solve(game)[0]))
        self.assertEqual(len(seen), 4)

    def test_drawn_games(self):
        rng = drawn(18)
        for height in (1, 2, 3):
            for most_out in (1, 2, 3, 7):
                for _ in range(40):
                    self.assert_solved(draw_game(rng, 9, most_out, height))

    def test_full_games(self):
        rng = drawn(19)
        for height in (1, 2, 3):
            self.assert_solved(full_game(height))
            for _ in range(20):
                edges = []
                for node in range(9):
                    edges += rng.sample([edge for edge in all_edges(height, 9) if edge[0] == node], 7)
                game = Game(height, "".join(rng.choice("AB") for _ in range(9)), edges)
                self.assertEqual((game.size, len(game.edges)), (9, 63))
                self.assert_solved(game)

    def test_games_next_to_each_other(self):
        rng = drawn(20)
        for _ in range(40):
            height = rng.randint(1, 3)
            one, other = draw_game(rng, 4, 3, height), draw_game(rng, 4, 3, height)
            both = self.assert_solved(side_by_side(one, other))
            self.assertEqual(both, slow_winners(one) + slow_winners(other))

    def test_mirrored_and_raised_games(self):
        rng = drawn(21)
        for _ in range(60):
            game = draw_game(rng, height=rng.randint(1, 2), most_out=3)
            winners = self.assert_solved(game)
            self.assertEqual(self.assert_solved(game.raised()), winners)
            mirrored = self.assert_solved(game.mirrored())
            self.assertEqual(mirrored, "".join("BA"[winner == "B"] for winner in winners))

    def test_new_list_each_time(self):
        game = Game(1, "A", [(0, 0, 0)])
        solve(game)[1].clear()
        self.assertEqual(solve(game), ("A", [(0, 0, 0)]))
