"""Point [31]: plans and edges of placements."""

from ladderreach.climbing import climb
from ladderreach.climbplans import allowed_edges, plan_of
from ladderreach.cycles import odd_cycle
from ladderreach.errors import BadPlacement, HeightMismatch, Misfit
from ladderreach.games import Game
from ladderreach.ladders import Ladder
from ladderreach.plans import judge
from ladderreach.webs import Web
from tests.helpers import (
    Case, allowed, draw_placement, drawn, fits, full_game, games_and_levels, has_cycle, long_levels, node_fits,
    slow_climb, slow_lift,
)

PAIR = Game(1, "BB", [(0, 1, 1), (1, 2, 0)])


def fitting_placements(rng, game, levels):
    """The climbed placement, and others that fit: those after the lifts of drawn ones."""
    found = [slow_climb(game, levels), [None] * game.size]
    for _ in range(3):
        placement = draw_placement(rng, game.size, levels)
        while not fits(game, levels, placement):
            wrong = [node for node in range(game.size) if not node_fits(game, levels, placement, node)]
            placement = slow_lift(game, levels, placement, wrong[0])
        found.append(placement)
    return found


def slow_allowed(game, levels, placement):
    found = []
    for source, rank, target in game.edges:
        start, end = placement[source], placement[target]
        if start is not None and end is not None and allowed(levels, start, rank, end):
            found.append((source, rank, target))
    return found


class PlanTest(Case):
    def test_small(self):
        game = Game(1, "AB", [(0, 1, 0), (0, 2, 1), (0, 2, 0), (1, 1, 0), (1, 2, 0)])
        self.assertEqual(plan_of(game, Ladder(1, [1]), [0, 1]), [(0, 2, 0), None])
        self.assertEqual(plan_of(game, Ladder(1, [1]), [1, None]), [(0, 2, 0), None])
        self.assertEqual(plan_of(game, Ladder(1, [1]), [None, None]), [None, None])
        self.assertEqual(plan_of(PAIR, Ladder(1, [1]), [1, 0]), [None, None])

    def test_the_least_edge(self):
        game = Game(2, "AA", [(0, 4, 0), (0, 3, 1), (0, 2, 0), (0, 1, 1), (0, 0, 1), (1, 4, 0), (1, 3, 0)])
        ladder = Ladder(2, [2, 1])
        self.assertEqual(plan_of(game, ladder, [0, 2]), [(0, 2, 0), (1, 3, 0)])
        self.assertEqual(plan_of(game, ladder, [2, 1]), [(0, 0, 1), (1, 4, 0)])
        self.assertEqual(plan_of(game, ladder, [0, 0]), [(0, 0, 1), (1, 4, 0)])
        self.assertEqual(plan_of(game, ladder, [0, None]), [(0, 2, 0), None])

    def test_against_the_words(self):
        rng = drawn(31)
        used = 0
        for game, levels in games_and_levels(rng, 200):
            ladder = Ladder(game.height, levels)
            for placement in fitting_placements(rng, game, levels):
                kept = list(placement)
                plan = plan_of(game, ladder, placement)
                self.assertIs(type(plan), list)
                self.assertEqual(placement, kept)
                good = slow_allowed(game, levels, placement)
                for node in range(game.size):
                    ways = [edge for edge in good if edge[0] == node and game.owners[node] == "A"]
                    self.assertEqual(plan[node], min(ways, default=None))
                nodes = [node for node in range(game.size) if placement[node] is not None]
                self.assertIsNone(judge(game, "A", nodes, plan))
                used += len(nodes)
        self.assertGreater(used, 400)

    def test_climbed_placements(self):
        for game, levels in games_and_levels(drawn(310), 100):
            ladder = Ladder(game.height, levels)
            placement = climb(game, ladder)
            nodes = [node for node in range(game.size) if placement[node] is not None]
            self.assertIsNone(judge(game, "A", nodes, plan_of(game, ladder, placement)))

    def test_misfit(self):
        rng = drawn(311)
        some = 0
        for game, levels in games_and_levels(rng, 100):
            placement = draw_placement(rng, game.size, levels)
            wrong = [node for node in range(game.size) if not node_fits(game, levels, placement, node)]
            if wrong:
                some += 1
                self.assert_raises(
                    Misfit, plan_of, game, Ladder(game.height, levels), placement, has={"node": wrong[0]})
        self.assertGreater(some, 50)

    def test_errors_in_order(self):
        ladder = Ladder(1, [1])
        self.assert_raises(Misfit, plan_of, PAIR, ladder, [0, 0], has={"node": 0})
        self.assert_raises(Misfit, plan_of, PAIR, ladder, [None, 0], has={"node": 1})
        self.assert_raises(BadPlacement, plan_of, PAIR, ladder, [0, 2], has={"node": 1})
        self.assert_raises(BadPlacement, plan_of, PAIR, ladder, [-1, 2], has={"node": 0})
        self.assert_raises(HeightMismatch, plan_of, PAIR, Ladder(2, [1]), [0, 2])
        self.assert_raises(HeightMismatch, plan_of, PAIR, Ladder(2, [1]), [1, 0])

    def test_returned_list_is_new(self):
        plan_of(PAIR, Ladder(1, [1]), [1, 0])[0] = 7
        self.assertEqual(plan_of(PAIR, Ladder(1, [1]), [1, 0]), [None, None])

    def test_limits(self):
        for height in (1, 2, 3):
            game, levels = full_game(height), long_levels(height)
            placement = slow_climb(game, levels)
            nodes = [node for node in range(9) if placement[node] is not None]
            self.assertIsNone(judge(game, "A", nodes, plan_of(game, Ladder(height, levels), placement)))


class AllowedEdgesTest(Case):
    def test_small(self):
        self.assertEqual(allowed_edges(PAIR, Ladder(1, [1]), [1, 0]), [(0, 1, 1), (1, 2, 0)])
        self.assertEqual(allowed_edges(PAIR, Ladder(1, [1]), [0, 0]), [(1, 2, 0)])
        self.assertEqual(allowed_edges(PAIR, Ladder(1, [1]), [1, None]), [])
        self.assertEqual(allowed_edges(PAIR, Ladder(1, [1]), [None, None]), [])

    def test_any_placement(self):
        rng = drawn(312)
        some = 0
        for game, levels in games_and_levels(rng, 200):
            ladder = Ladder(game.height, levels)
            for placement in [draw_placement(rng, game.size, levels), [0] * game.size, slow_climb(game, levels)]:
                kept = list(placement)
                edges = allowed_edges(game, ladder, placement)
                self.assertIs(type(edges), list)
                self.assertEqual(placement, kept)
                self.assertEqual(edges, slow_allowed(game, levels, placement))
                self.assertEqual(edges, sorted(edges))
                self.assertFalse(has_cycle(game.size, edges, 1))
                self.assertIsNone(odd_cycle(Web(game.height, game.size, edges)))
                some += 0 < len(edges) < len(game.edges)
        self.assertGreater(some, 100)

    def test_errors(self):
        for wrong in (-1, 2):
            self.assert_raises(BadPlacement, allowed_edges, PAIR, Ladder(1, [1]), [0, wrong], has={"node": 1})
            self.assert_raises(BadPlacement, allowed_edges, PAIR, Ladder(1, [1]), [wrong, wrong], has={"node": 0})
            self.assert_raises(HeightMismatch, allowed_edges, PAIR, Ladder(3, [1]), [wrong, 0])
        self.assert_raises(HeightMismatch, allowed_edges, PAIR, Ladder(2, [1]), [0, 0])

    def test_returned_list_is_new(self):
        allowed_edges(PAIR, Ladder(1, [1]), [1, 0]).clear()
        self.assertEqual(len(allowed_edges(PAIR, Ladder(1, [1]), [1, 0])), 2)

    def test_limits(self):
        for height in (1, 2, 3):
            game, levels = full_game(height), long_levels(height)
            for placement in ([24] * 9, list(range(24, 15, -1)), [0, None, 24] * 3):
                edges = allowed_edges(game, Ladder(height, levels), placement)
                self.assertEqual(edges, slow_allowed(game, levels, placement))
                self.assertFalse(has_cycle(9, edges, 1))
