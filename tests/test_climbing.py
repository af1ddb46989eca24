"""Points [27] to [30]: placements, lifts and the climbed placement."""

import itertools

from ladderreach.climbing import climb, lift, lifts, misfits, told_nodes
from ladderreach.errors import BadPlacement, HeightMismatch, NoSuchNode
from ladderreach.games import Game
from ladderreach.ladders import Ladder
from ladderreach.winners import solve
from tests.helpers import (
    Case, all_rows_up_to, draw_fitting_game, draw_game, draw_placement, drawn, fits, full_game, games_and_levels,
    long_levels, node_fits, slow_climb, slow_lift, slow_told,
)

PAIR = Game(1, "BB", [(0, 1, 1), (1, 2, 0)])


def drawn_placements(seed, count, most_size=9, most_levels=24):
    """Drawn games, levels and placements: some of any kind, some in which most nodes fit."""
    rng = drawn(seed)
    for turn, (game, levels) in enumerate(games_and_levels(rng, count, most_size, most_levels)):
        yield game, levels, draw_placement(rng, game.size, levels)
        if turn % 2 == 0:
            game, placement = draw_fitting_game(rng, game.height, levels, most_size)
            yield game, levels, placement
            placement[rng.randrange(game.size)] = rng.choice([None, *range(len(levels) + 1)])
            yield game, levels, placement


def many_errors(case, call):
    """The errors of a game, a ladder and a placement, in their order."""
    ladder = Ladder(1, [1, 1])
    for wrong in (-1, 3):
        case.assert_raises(BadPlacement, call, PAIR, ladder, [wrong, 0], has={"node": 0})
        case.assert_raises(BadPlacement, call, PAIR, ladder, [2, wrong], has={"node": 1})
        case.assert_raises(BadPlacement, call, PAIR, ladder, [None, wrong], has={"node": 1})
        case.assert_raises(BadPlacement, call, PAIR, ladder, [wrong, wrong], has={"node": 0})
        for height in (2, 3):
            case.assert_raises(HeightMismatch, call, PAIR, Ladder(height, [1]), [wrong, 0])
    case.assert_raises(HeightMismatch, call, PAIR, Ladder(2, [1, 1]), [0, 0])
    case.assert_raises(HeightMismatch, call, full_game(3), Ladder(2, []), [0] * 9)
    case.assert_raises(BadPlacement, call, full_game(3), Ladder(3, []), [0] * 4 + [1] + [0] * 3 + [2], has={"node": 4})
    case.assert_raises(BadPlacement, call, full_game(2), Ladder(2, [1] * 24), [24] * 8 + [25], has={"node": 8})


class MisfitsTest(Case):
    def test_small(self):
        ladder = Ladder(1, [1])
        self.assertEqual(misfits(PAIR, ladder, [0, 0]), [0])
        self.assertEqual(misfits(PAIR, ladder, [1, 0]), [])
        self.assertEqual(misfits(PAIR, ladder, [None, 0]), [1])
        self.assertEqual(misfits(PAIR, ladder, [None, None]), [])
        self.assertEqual(misfits(PAIR, ladder, [1, None]), [0])

    def test_edges_of_a_node_to_itself(self):
        for owner in "AB":
            for step in (0, 1, 2):
                ladder = Ladder(2, [1, 2])
                for rank, wrong in ((0, []), (1, [0]), (2, []), (3, [0]), (4, [])):
                    self.assertEqual(misfits(Game(2, owner, [(0, rank, 0)]), ladder, [step]), wrong)
        self.assertEqual(misfits(Game(1, "A", [(0, 1, 0), (0, 2, 0)]), Ladder(1, []), [0]), [])
        self.assertEqual(misfits(Game(1, "B", [(0, 1, 0), (0, 2, 0)]), Ladder(1, []), [0]), [0])

    def test_edges_to_nodes_that_are_off(self):
        for owner, wrong in (("A", []), ("B", [0])):
            game = Game(1, owner + "AB", [(0, 2, 1), (0, 2, 2), (1, 1, 1), (2, 0, 2)])
            self.assertEqual(misfits(game, Ladder(1, [1]), [1, None, 0]), wrong)
            self.assertEqual(misfits(game, Ladder(1, [1]), [1, None, None]), [0])
            self.assertEqual(misfits(game, Ladder(1, [1]), [None, None, None]), [])

    def test_against_the_words(self):
        some = {"A": 0, "B": 0}
        for game, levels, placement in drawn_placements(27, 300):
            kept = list(placement)
            expected = [node for node in range(game.size) if not node_fits(game, levels, placement, node)]
            found = misfits(game, Ladder(game.height, levels), placement)
            self.assertIs(type(found), list)
            self.assertEqual(found, expected)
            self.assertEqual(placement, kept)
            for node in found:
                some[game.owners[node]] += 1
        self.assertGreater(min(some.values()), 100)

    def test_errors(self):
        many_errors(self, misfits)

    def test_limits(self):
        for height in (1, 2, 3):
            game, levels = full_game(height), long_levels(height)
            for placement in ([24] * 9, list(range(24, 15, -1)), [0, None, 24] * 3):
                expected = [node for node in range(9) if not node_fits(game, levels, placement, node)]
                self.assertEqual(misfits(game, Ladder(height, levels), placement), expected)


class LiftTest(Case):
    def test_small(self):
        ladder = Ladder(1, [1])
        self.assertEqual(lift(PAIR, ladder, [0, 0], 0), [1, 0])
        self.assertEqual(lift(PAIR, ladder, [1, 0], 0), [1, 0])
        self.assertEqual(lift(PAIR, ladder, [1, 0], 1), [1, 0])
        self.assertEqual(lift(PAIR, ladder, [0, 1], 0), [None, 1])
        self.assertEqual(lift(PAIR, ladder, [None, 0], 1), [None, None])
        self.assertEqual(lift(PAIR, ladder, [None, 0], 0), [None, 0])

    def test_present_step(self):
        game = Game(2, "BB", [(0, 1, 1), (1, 0, 1)])
        ladder = Ladder(2, [1, 2, 1])
        for step in (0, 1):
            self.assertEqual(lift(game, ladder, [step, 0], 0), [1, 0])
        for step in (2, 3):
            self.assertEqual(lift(game, ladder, [step, 0], 0), [step, 0])

    def test_edges_of_a_node_to_itself(self):
        game = Game(1, "B", [(0, 1, 0), (0, 2, 0)])
        for step in range(4):
            self.assertEqual(lift(game, Ladder(1, [1, 1, 1]), [step], 0), [None])
        game = Game(1, "A", [(0, 1, 0), (0, 2, 0)])
        for step in range(4):
            self.assertEqual(lift(game, Ladder(1, [1, 1, 1]), [step], 0), [step])

    def test_against_a_slow_search(self):
        off = moved = 0
        for game, levels, placement in drawn_placements(28, 200):
            ladder = Ladder(game.height, levels)
            for node in range(game.size):
                kept = list(placement)
                lifted = lift(game, ladder, placement, node)
                self.assertIs(type(lifted), list)
                self.assertIsNot(lifted, placement)
                self.assertEqual(placement, kept)
                self.assertEqual(lifted, slow_lift(game, levels, placement, node))
                if lifted != placement:
                    moved += lifted[node] is not None
                    off += lifted[node] is None
                elif placement[node] is None:
                    self.assertIsNone(lifted[node])
        self.assertGreater(off, 100)
        self.assertGreater(moved, 50)

    def test_errors(self):
        many_errors(self, lambda game, ladder, placement: lift(game, ladder, placement, 0))
        many_errors(self, lambda game, ladder, placement: lift(game, ladder, placement, 9))
        for node in (-1, 2):
            self.assert_raises(NoSuchNode, lift, PAIR, Ladder(1, [1]), [0, 0], node, has={"node": node})
        self.assert_raises(NoSuchNode, lift, full_game(2), Ladder(2, []), [None] * 9, 9, has={"node": 9})

    def test_limits(self):
        for height in (1, 2, 3):
            game, levels = full_game(height), long_levels(height)
            for node in range(9):
                for placement in ([0] * 9, [24, 20, 16, 12, 8, 4, 0, None, 1]):
                    expected = slow_lift(game, levels, placement, node)
                    self.assertEqual(lift(game, Ladder(height, levels), placement, node), expected)


class LiftsTest(Case):
    def assert_lifts(self, game, ladder, start, found):
        """Each tuple is the lift of the least node that does not fit; in the end there is none."""
        placement = list(start)
        for step in found:
            self.assertIs(type(step), tuple)
            node, entry = step
            self.assertEqual(node, misfits(game, ladder, placement)[0])
            placement = lift(game, ladder, placement, node)
            self.assertEqual(entry, placement[node])
        self.assertEqual(misfits(game, ladder, placement), [])

    def test_small(self):
        self.assertEqual(list(lifts(PAIR, Ladder(1, [1]))), [(0, 1)])
        self.assertEqual(list(lifts(PAIR, Ladder(1, []))), [(0, None), (1, None)])
        self.assertEqual(list(lifts(PAIR, Ladder(1, [1, 1]), start=[0, 1])), [(0, 2)])
        self.assertEqual(list(lifts(PAIR, Ladder(1, [1, 1]), start=[1, 1])), [(0, 2)])

    def test_without_a_start(self):
        for game, levels in games_and_levels(drawn(29), 200):
            ladder = Ladder(game.height, levels)
            found = list(lifts(game, ladder))
            self.assert_lifts(game, ladder, [0] * game.size, found)
            self.assertEqual(found, list(lifts(game, ladder, start=[0] * game.size)))
            self.assertEqual(found, list(lifts(game, ladder, start=None)))

    def test_with_a_start(self):
        for game, levels, placement in drawn_placements(290, 150):
            ladder = Ladder(game.height, levels)
            kept = list(placement)
            found = list(lifts(game, ladder, start=placement))
            self.assertEqual(placement, kept)
            self.assert_lifts(game, ladder, placement, found)

    def test_a_start_that_fits(self):
        for game, levels in games_and_levels(drawn(291), 60):
            ladder = Ladder(game.height, levels)
            self.assertEqual(list(lifts(game, ladder, start=[None] * game.size)), [])
            self.assertEqual(list(lifts(game, ladder, start=slow_climb(game, levels))), [])

    def test_a_later_change_of_the_start(self):
        game, ladder = full_game(2), Ladder(2, [1, 2, 1, 1])
        expected = list(lifts(game, ladder))
        self.assertGreater(len(expected), 5)
        start = [0] * 9
        steps = lifts(game, ladder, start=start)
        found = [next(steps)]
        self.assertEqual(start, [0] * 9)
        start[:] = [None] * 9
        found.append(next(steps))
        start.clear()
        found.extend(steps)
        self.assertEqual(found, expected)

    def test_start_only_by_keyword(self):
        with self.assertRaises(TypeError):
            lifts(PAIR, Ladder(1, [1]), [0, 0])

    def test_errors_come_when_the_iteration_begins(self):
        many_errors(self, lambda game, ladder, placement: next(lifts(game, ladder, start=placement)))
        self.assert_raises(HeightMismatch, next, lifts(PAIR, Ladder(2, [])))
        wrong = lifts(PAIR, Ladder(1, []), start=[0, 1])
        self.assert_raises(BadPlacement, list, wrong, has={"node": 1})

    def test_limits(self):
        for height in (1, 2, 3):
            ladder = Ladder(height, long_levels(height))
            self.assert_lifts(full_game(height), ladder, [0] * 9, list(lifts(full_game(height), ladder)))


class ClimbTest(Case):
    def test_examples(self):
        self.assertEqual(climb(PAIR, Ladder(1, [1])), [1, 0])
        self.assertEqual(climb(PAIR, Ladder(1, [])), [None, None])

    def test_against_other_orders(self):
        rng = drawn(30)
        told = off = 0
        for game, levels in games_and_levels(rng, 200):
            ladder = Ladder(game.height, levels)
            placement = climb(game, ladder)
            self.assertIs(type(placement), list)
            for choose in (min, max, rng.choice):
                self.assertEqual(placement, slow_climb(game, levels, choose))
            off += placement.count(None)
            told += game.size - placement.count(None)
        self.assertGreater(told, 100)
        self.assertGreater(off, 100)

    def test_the_placement_after_all_lifts(self):
        for game, levels in games_and_levels(drawn(301), 60):
            ladder = Ladder(game.height, levels)
            placement = [0] * game.size
            for node, entry in lifts(game, ladder):
                placement[node] = entry
            self.assertEqual(climb(game, ladder), placement)

    def test_the_least_one_that_fits(self):
        rng = drawn(302)
        for height in (1, 2, 3):
            for levels in all_rows_up_to(height, 2) + [(1, height, 1), (height, 1, 1)]:
                for _ in range(8):
                    game = draw_game(rng, most_size=3, most_out=3, height=height)
                    climbed = climb(game, Ladder(height, levels))
                    self.assertTrue(fits(game, levels, climbed))
                    for placement in itertools.product([None, *range(len(levels) + 1)], repeat=game.size):
                        if fits(game, levels, placement):
                            for least, entry in zip(climbed, placement):
                                self.assertTrue(entry is None or (least is not None and least <= entry))

    def test_told_nodes(self):
        self.assertEqual(told_nodes(PAIR, Ladder(1, [1])), [0, 1])
        self.assertEqual(told_nodes(PAIR, Ladder(1, [])), [])
        some = 0
        for game, levels in games_and_levels(drawn(303), 200):
            ladder = Ladder(game.height, levels)
            found = told_nodes(game, ladder)
            self.assertIs(type(found), list)
            self.assertEqual(found, slow_told(game, levels))
            self.assertEqual(found, [node for node, entry in enumerate(climb(game, ladder)) if entry is not None])
            winners, _ = solve(game)
            for node in found:
                self.assertEqual(winners[node], "A")
            some += 0 < len(found) < game.size
        self.assertGreater(some, 20)

    def test_long_ladders_tell_what_a_wins(self):
        rng = drawn(304)
        for turn in range(120):
            height = turn % 3 + 1
            count = {1: 9, 2: 5, 3: 3}[height]
            game = draw_game(rng, most_size=count, most_out=2, height=height)
            for ladder in (Ladder.halving(height, count), Ladder.plain(height, count if height < 3 else 2)):
                if game.size <= count and (height < 3 or game.size <= 2):
                    won = [node for node, winner in enumerate(solve(game)[0]) if winner == "A"]
                    self.assertEqual(told_nodes(game, ladder), won)

    def test_height_mismatch(self):
        for height in (1, 2, 3):
            for other in (1, 2, 3):
                if height != other:
                    game = Game(height, "A", [(0, 0, 0)])
                    self.assert_raises(HeightMismatch, climb, game, Ladder(other, []))
                    self.assert_raises(HeightMismatch, told_nodes, game, Ladder(other, [1]))

    def test_returned_lists_are_new(self):
        ladder = Ladder(1, [1])
        climb(PAIR, ladder).clear()
        told_nodes(PAIR, ladder).append(7)
        misfits(PAIR, ladder, [0, 0]).append(7)
        self.assertEqual(climb(PAIR, ladder), [1, 0])
        self.assertEqual(told_nodes(PAIR, ladder), [0, 1])
        self.assertEqual(misfits(PAIR, ladder, [0, 0]), [0])

    def test_limits(self):
        for height in (1, 2, 3):
            game, levels = full_game(height), long_levels(height)
            self.assertEqual(climb(game, Ladder(height, levels)), slow_climb(game, levels))
            self.assertEqual(told_nodes(game, Ladder(height, levels)), slow_told(game, levels))

    def test_a_long_climb(self):
        # Each node has to stand above the next one in a ring, so that all go up until they are off.
        game = Game(1, "B" * 9, [(node, 1, (node + 1) % 9) for node in range(9)])
        ladder = Ladder(1, [1] * 24)
        self.assertEqual(climb(game, ladder), [None] * 9)
        self.assertGreater(len(list(lifts(game, ladder))), 50)
        # Without the last edge of the ring they stop.
        game = game.with_edge((8, 2, 0)).without_edge((8, 1, 0))
        self.assertEqual(climb(game, ladder), list(range(8, -1, -1)))
