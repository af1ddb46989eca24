"""Points [16] and [18]: judging and playing plans."""

from ladderreach.errors import BadPlan, NoSuchNode
from ladderreach.games import Game
from ladderreach.plans import judge, play
from tests.helpers import Case, draw_game, drawn, full_game, greatest_rank, simple_cycles

# Node 0 of A and node 1 of B lead to each other and to themselves; node 2 of A leads into them.
GAME = Game(1, "ABA", [(0, 1, 0), (0, 2, 0), (0, 0, 1), (1, 0, 0), (1, 1, 1), (1, 2, 1), (2, 0, 0), (2, 0, 1)])


class JudgeTest(Case):
    def test_wins(self):
        self.assertIsNone(judge(GAME, "A", [0], [(0, 2, 0), None, None]))
        self.assertIsNone(judge(GAME, "A", [2, 0], [(0, 2, 0), None, (2, 0, 0)]))
        self.assertIsNone(judge(GAME, "B", [1], [None, (1, 1, 1), None]))

    def test_no_nodes(self):
        for player in "AB":
            self.assertIsNone(judge(GAME, player, [], [None, None, None]))
            self.assertIsNone(judge(GAME, player, (), [(7, 7, 7), (7, 7, 7), (7, 7, 7)]))

    def test_missing(self):
        self.assertEqual(judge(GAME, "A", [2, 1, 0], [None, None, None]), ("missing", 0))
        self.assertEqual(judge(GAME, "A", [2, 1], [None, None, None]), ("missing", 2))
        self.assertEqual(judge(GAME, "B", [2, 1, 0], [None, None, None]), ("missing", 1))
        self.assertEqual(judge(GAME, "A", [0, 2], [(0, 0, 1), None, None]), ("missing", 2))

    def test_leak(self):
        self.assertEqual(judge(GAME, "A", [0], [(0, 0, 1), None, None]), ("leak", (0, 0, 1)))
        self.assertEqual(judge(GAME, "B", [1], [None, (1, 0, 0), None]), ("leak", (1, 0, 0)))
        self.assertEqual(judge(GAME, "A", [2], [None, None, (2, 0, 1)]), ("leak", (2, 0, 1)))
        self.assertEqual(judge(GAME, "B", [2], [None, None, None]), ("leak", (2, 0, 0)))
        self.assertEqual(judge(GAME, "B", [1, 2], [None, (1, 1, 1), None]), ("leak", (2, 0, 0)))
        self.assertEqual(judge(GAME, "A", [1, 2], [None, None, (2, 0, 0)]), ("leak", (1, 0, 0)))
        # A cycle that is wrong as well does not matter.
        self.assertEqual(judge(GAME, "A", [1], [None, None, None]), ("leak", (1, 0, 0)))

    def test_cycle(self):
        self.assertEqual(judge(GAME, "A", [0], [(0, 1, 0), None, None]), ("cycle", [(0, 1, 0)]))
        self.assertEqual(judge(GAME, "B", [1], [None, (1, 2, 1), None]), ("cycle", [(1, 2, 1)]))
        self.assertEqual(judge(GAME, "A", [0, 1], [(0, 2, 0), None, None]), ("cycle", [(1, 1, 1)]))
        answer = judge(GAME, "B", [0, 1], [None, (1, 0, 0), None])
        self.assertEqual(answer[0], "cycle")
        self.assertIn(sorted(answer[1]), [[(0, 2, 0)], [(0, 0, 1), (1, 0, 0)]])

    def test_a_wrong_cycle_for_a_is_odd_and_for_b_even(self):
        for rank in range(7):
            loop = Game(3, "A", [(0, rank, 0)])
            for player in "AB":
                wrong = rank % 2 == (1 if player == "A" else 0)
                answer = judge(loop, player, [0], [(0, rank, 0)])
                self.assertEqual(answer, ("cycle", [(0, rank, 0)]) if wrong else None)

    def test_kind_of_the_answer(self):
        answer = judge(GAME, "A", [0], [(0, 1, 0), None, None])
        self.assertIs(type(answer), tuple)
        self.assertIs(type(answer[1]), list)
        answer[1].clear()
        self.assertEqual(judge(GAME, "A", [0], [(0, 1, 0), None, None]), ("cycle", [(0, 1, 0)]))

    def test_no_such_node(self):
        plan = [(7, 7, 7), (7, 7, 7), (7, 7, 7)]
        for player in "AB":
            self.assert_raises(NoSuchNode, judge, GAME, player, [0, 3, -1], plan, has={"node": 3})
            self.assert_raises(NoSuchNode, judge, GAME, player, (-1, 3), plan, has={"node": -1})

    def test_bad_plan(self):
        for entry in ((1, 0, 0), (0, 0, 0), (0, 0, 2), (0, 1, 1), (9, 0, 0), (0, -1, 0)):
            self.assert_raises(BadPlan, judge, GAME, "A", [0, 1], [entry, None, None], has={"node": 0})
        for entry in ((0, 0, 1), (1, 0, 1), (2, 0, 1)):
            self.assert_raises(BadPlan, judge, GAME, "B", [1], [None, entry, None], has={"node": 1})

    def test_bad_plan_of_the_least_node(self):
        plan = [(0, 0, 0), (1, 1, 0), (2, 2, 2)]
        self.assert_raises(BadPlan, judge, GAME, "A", [2, 1, 0], plan, has={"node": 0})
        self.assert_raises(BadPlan, judge, GAME, "A", [2, 1], plan, has={"node": 2})
        self.assert_raises(BadPlan, judge, GAME, "B", (2, 1, 0), plan, has={"node": 1})

    def test_bad_plan_ahead_of_the_answers(self):
        self.assert_raises(BadPlan, judge, GAME, "A", [0, 2], [None, None, (0, 0, 1)], has={"node": 2})
        self.assert_raises(BadPlan, judge, GAME, "A", [0, 2], [(0, 0, 1), None, (0, 0, 1)], has={"node": 2})

    def test_entries_that_are_not_used(self):
        self.assertIsNone(judge(GAME, "A", [0], [(0, 2, 0), (7, 7, 7), (0, 0, 1)]))
        self.assertIsNone(judge(GAME, "B", [1], [(1, 1, 1), (1, 1, 1), (0, 0, 0)]))
        # Node 1 belongs to B: its entry does not restrict B.
        self.assertEqual(judge(GAME, "A", [0, 1], [(0, 2, 0), (1, 2, 1), None]), ("cycle", [(1, 1, 1)]))

    def test_list_and_tuple_of_nodes(self):
        plan = [(0, 2, 0), None, (2, 0, 0)]
        nodes = [2, 0]
        self.assertIsNone(judge(GAME, "A", nodes, plan))
        self.assertIsNone(judge(GAME, "A", (2, 0), plan))
        self.assertEqual((nodes, plan), ([2, 0], [(0, 2, 0), None, (2, 0, 0)]))

    def assert_judged(self, game, player, nodes, plan):
        """Hold the answer against the words of the point."""
        own = [node for node in sorted(nodes) if game.owners[node] == player]
        wrong = [node for node in own if plan[node] is not None
                 and (plan[node] not in game.edges or plan[node][0] != node)]
        if wrong:
            self.assert_raises(BadPlan, judge, game, player, nodes, plan, has={"node": wrong[0]})
            return "bad"
        answer = judge(game, player, nodes, plan)
        missing = [node for node in own if plan[node] is None]
        if missing:
            self.assertEqual(answer, ("missing", missing[0]))
            return "missing"
        edges = [plan[node] for node in own]
        edges += [edge for edge in game.edges if edge[0] in nodes and edge[0] not in own]
        leaks = [edge for edge in edges if edge[2] not in nodes]
        if leaks:
            self.assertEqual(answer, ("leak", min(leaks)))
            return "leak"
        odd = 1 if player == "A" else 0
        if any(greatest_rank(cycle) % 2 == odd for cycle in simple_cycles(edges)):
            self.assertEqual(answer[0], "cycle")
            self.assert_cycle(answer[1], edges)
            self.assertEqual(greatest_rank(answer[1]) % 2, odd)
            return "cycle"
        self.assertIsNone(answer)
        return "wins"

    def test_drawn_plans(self):
        rng = drawn(16)
        seen = {}
        for _ in range(1500):
            game = draw_game(rng, most_size=4, most_out=3)
            plan = [rng.choice(game.out(node)) for node in range(game.size)]
            if rng.random() < 0.3:
                plan[rng.randrange(game.size)] = None
            if rng.random() < 0.3:
                plan[rng.randrange(game.size)] = rng.choice(game.edges)
            if rng.random() < 0.1:
                plan[rng.randrange(game.size)] = (0, 99, 0)
            count = game.size if rng.random() < 0.6 else rng.randint(0, game.size)
            nodes = rng.sample(range(game.size), count)
            for player in "AB":
                kind = self.assert_judged(game, player, nodes, plan)
                seen[kind, player] = seen.get((kind, player), 0) + 1
        self.assertGreater(min(seen.values()), 20)
        self.assertEqual(len(seen), 10)

    def test_full_games(self):
        for height in (1, 2, 3):
            game = full_game(height)
            nodes = list(range(9))
            for at in range(7):
                plan = [game.out(node)[(at + node) % 7] for node in nodes]
                for player in "AB":
                    answer = judge(game, player, nodes, plan)
                    edges = [edge for edge in game.edges if game.owners[edge[0]] != player or edge in plan]
                    self.assertEqual(answer[0], "cycle")
                    self.assert_cycle(answer[1], edges)
                    self.assertEqual(greatest_rank(answer[1]) % 2, 1 if player == "A" else 0)


class PlayTest(Case):
    def test_stem_and_cycle(self):
        plan = [(0, 0, 1), (1, 0, 0), (2, 0, 1)]
        self.assertEqual(play(GAME, plan, 2), ("A", [(2, 0, 1)], [(1, 0, 0), (0, 0, 1)]))
        self.assertEqual(play(GAME, plan, 0), ("A", [], [(0, 0, 1), (1, 0, 0)]))
        self.assertEqual(play(GAME, plan, 1), ("A", [], [(1, 0, 0), (0, 0, 1)]))
        plan = [(0, 0, 1), (1, 1, 1), (2, 0, 0)]
        self.assertEqual(play(GAME, plan, 2), ("B", [(2, 0, 0), (0, 0, 1)], [(1, 1, 1)]))

    def test_only_the_cycle_decides(self):
        game = Game(2, "AB", [(0, 4, 1), (0, 3, 1), (1, 1, 1), (1, 2, 1)])
        self.assertEqual(play(game, [(0, 4, 1), (1, 1, 1)], 0), ("B", [(0, 4, 1)], [(1, 1, 1)]))
        self.assertEqual(play(game, [(0, 3, 1), (1, 2, 1)], 0), ("A", [(0, 3, 1)], [(1, 2, 1)]))

    def test_the_greatest_rank_decides(self):
        for one in range(7):
            for other in range(7):
                game = Game(3, "AB", [(0, one, 1), (1, other, 0)])
                winner = "A" if max(one, other) % 2 == 0 else "B"
                edges = list(game.edges)
                self.assertEqual(play(game, edges, 0), (winner, [], edges))

    def test_no_such_node(self):
        for start in (-1, 3):
            self.assert_raises(NoSuchNode, play, GAME, [None, None, None], start, has={"node": start})

    def test_bad_plan(self):
        for entry in (None, (1, 0, 0), (0, 0, 0), (0, 0, 2), (9, 9, 9)):
            self.assert_raises(BadPlan, play, GAME, [entry, (1, 1, 1), (2, 0, 0)], 2, has={"node": 0})
            self.assert_raises(BadPlan, play, GAME, [entry, None, None], 0, has={"node": 0})
            self.assertEqual(play(GAME, [entry, (1, 1, 1), (2, 0, 1)], 2)[0], "B")
        self.assert_raises(BadPlan, play, GAME, [None, (7, 7, 7), None], 2, has={"node": 2})
        self.assert_raises(BadPlan, play, GAME, [None, None, (2, 0, 1)], 2, has={"node": 1})

    def test_entries_that_are_not_visited(self):
        self.assertEqual(play(GAME, [(0, 2, 0), None, (0, 2, 0)], 0), ("A", [], [(0, 2, 0)]))
        self.assertEqual(play(GAME, [(7, 7, 7), (1, 1, 1), None], 1), ("B", [], [(1, 1, 1)]))

    def test_kinds_and_new_lists(self):
        plan = [(0, 2, 0), None, (2, 0, 0)]
        answer = play(GAME, plan, 2)
        self.assertEqual([type(part) for part in answer], [str, list, list])
        answer[1].clear()
        answer[2].clear()
        self.assertEqual(play(GAME, plan, 2), ("A", [(2, 0, 0)], [(0, 2, 0)]))
        self.assertEqual(plan, [(0, 2, 0), None, (2, 0, 0)])

    def test_drawn_plans(self):
        rng = drawn(18)
        games = [draw_game(rng) for _ in range(150)] + [full_game(height) for height in (1, 2, 3)]
        for game in games:
            plan = [rng.choice(game.out(node)) for node in range(game.size)]
            for start in range(game.size):
                walk, nodes = [], [start]
                while nodes[-1] not in nodes[:-1]:
                    walk.append(plan[nodes[-1]])
                    nodes.append(walk[-1][2])
                first = nodes.index(nodes[-1])
                winner = "BA"[greatest_rank(walk[first:]) % 2 == 0]
                self.assertEqual(play(game, plan, start), (winner, walk[:first], walk[first:]))
