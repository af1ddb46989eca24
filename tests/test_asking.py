"""Points [39] to [41]: what games ask of ladders."""

import itertools

from ladderreach.asking import ask_game, asked, covers
from ladderreach.asks import Ask
from ladderreach.combine import all_of, either
from ladderreach.errors import HeightMismatch, NoSuchNode, TooLarge
from ladderreach.games import Game
from ladderreach.ladders import Ladder
from ladderreach.rowgames import row_game
from ladderreach.winners import solve
from tests.helpers import (
    Case, all_rows_up_to, draw_fitting_game, draw_game, draw_row, drawn, full_game, long_levels, marked_holds,
    slow_told,
)

PAIR = Game(1, "BB", [(0, 1, 1), (1, 2, 0)])


def small_game(rng, height, most_size=None):
    """A game that is small enough for asked; often A wins in it."""
    most_size = most_size or (4 if height == 3 else 5)
    if rng.random() < 0.4:
        return draw_game(rng, most_size=most_size, most_out=2, height=height)
    return draw_fitting_game(rng, height, draw_row(rng, height, most_size - 1), most_size, 3)[0]


def many_levels(rng, height):
    return all_rows_up_to(height, 3) + [draw_row(rng, height) for _ in range(10)] + [long_levels(height)]


class AskedTest(Case):
    def test_examples(self):
        self.assertEqual(asked(PAIR, 0).rows, ((1,),))
        self.assertEqual(asked(PAIR, 1).rows, ((1,),))
        self.assertIs(type(asked(PAIR, 0)), Ask)

    def test_against_climb(self):
        rng = drawn(39)
        several = 0
        for turn in range(90):
            height = turn % 3 + 1
            game = small_game(rng, height)
            for nodes in ([rng.randrange(game.size)], [rng.randrange(game.size) for _ in range(rng.randint(2, 6))]):
                ask = asked(game, *nodes)
                self.assertEqual(ask.height, height)
                for levels in many_levels(rng, height):
                    told = slow_told(game, levels)
                    self.assertIs(Ladder(height, levels) in ask, all(node in told for node in nodes))
                several += len(ask.rows) > 1
        self.assertGreater(several, 5)

    def test_equal_nodes_and_their_order(self):
        rng = drawn(390)
        for turn in range(30):
            game = small_game(rng, turn % 3 + 1)
            one, other = rng.randrange(game.size), rng.randrange(game.size)
            self.assertEqual(asked(game, one, one, one), asked(game, one))
            self.assertEqual(asked(game, one, other), asked(game, other, one, other))

    def test_winners_and_lengths(self):
        rng = drawn(391)
        lost = 0
        for turn in range(90):
            game = small_game(rng, turn % 3 + 1)
            winners, _ = solve(game)
            for node in range(game.size):
                ask = asked(game, node)
                self.assertEqual(ask == Ask.never(game.height), winners[node] == "B")
                for row in ask.rows:
                    self.assertLess(len(row), winners.count("A"))
                lost += winners[node] == "B"
            self.assertEqual(asked(game, *range(game.size)) == Ask.never(game.height), "B" in winners)
        self.assertGreater(lost, 40)

    def test_row_games(self):
        for height, most in ((1, 4), (2, 4), (3, 3)):
            for row in all_rows_up_to(height, most):
                game = row_game(Ladder(height, row))
                self.assertEqual(asked(game, 0).rows, (row,))
                self.assertEqual(asked(game, *range(game.size)).rows, (row,))

    def test_no_such_node(self):
        for node in (-1, 2, 9):
            self.assert_raises(NoSuchNode, asked, PAIR, node, has={"node": node})
            self.assert_raises(NoSuchNode, asked, PAIR, node, 7, 0, has={"node": node})
            self.assert_raises(NoSuchNode, asked, PAIR, 1, 0, node, -4, has={"node": node})

    def test_sizes(self):
        for height, most in ((1, 5), (2, 5), (3, 4)):
            for size in range(1, 10):
                game = Game(height, "A" * size, [(node, 2 * height, 0) for node in range(size)])
                if size <= most:
                    self.assertEqual(asked(game, size - 1), Ask.always(height))
                else:
                    self.assert_raises(TooLarge, asked, game, 0)
                    self.assert_raises(TooLarge, asked, game, size)
                    self.assert_raises(TooLarge, asked, game, -1, -2)
            self.assert_raises(TooLarge, asked, full_game(height), 0)

    def test_either_and_all_of(self):
        rng = drawn(392)
        some = 0
        for turn in range(60):
            height = turn % 3 + 1
            one, other = small_game(rng, height, 2), small_game(rng, height, 2 if height < 3 else 1)
            if turn % 2:
                one = row_game(Ladder(height, [rng.randint(1, height)]))
            positions = [(game, rng.randrange(game.size)) for game in (one, other)]
            asks = [asked(game, node) for game, node in positions]
            self.assertEqual(asked(either(*positions), 0), asks[0] | asks[1])
            self.assertEqual(asked(all_of(*positions), 0), asks[0] & asks[1])
            some += len(asks[0].rows) > 0 and len(asks[1].rows) > 0
        self.assertGreater(some, 15)
        one, other = row_game(Ladder(2, [1])), row_game(Ladder(2, [2]))
        self.assertEqual(asked(all_of((one, 0), (other, 1)), 0).rows, ((1, 2), (2, 1)))
        self.assertEqual(asked(either((one, 0), (other, 1)), 0).rows, ((1,), (2,)))

    def test_raised(self):
        rng = drawn(393)
        for turn in range(40):
            game = small_game(rng, turn % 2 + 1, 4)
            for node in range(game.size):
                rows = tuple(tuple(level + 1 for level in row) for row in asked(game, node).rows)
                self.assertEqual(asked(game.raised(), node).rows, rows)

    def test_limits(self):
        # As many edges between 5 nodes, or 4, as there can be, with the greatest ranks.
        for height, size in ((1, 5), (2, 5), (3, 4)):
            edges = list(itertools.product(range(size), range(2 * height, -1, -1), range(size)))[:63]
            edges += [(node, 2 * height, 0) for node in range(size) if (node, 2 * height, 0) not in edges]
            game = Game(height, "BABAB"[:size], edges[-63:] if len(edges) > 63 else edges)
            ask = asked(game, *range(game.size))
            for levels in (long_levels(height), (1,), ()):
                told = slow_told(game, levels)
                self.assertIs(Ladder(height, levels) in ask, told == list(range(size)))


class AskGameTest(Case):
    def test_no_rows(self):
        for height in (1, 2, 3):
            game = ask_game(Ask.never(height))
            self.assertIs(type(game), Game)
            self.assertEqual(game, Game(height, "B", [(0, 1, 0)]))

    def test_one_row(self):
        for height in (1, 2, 3):
            for row in [(), (1,), (height, 1), long_levels(height)[:8]]:
                self.assertEqual(ask_game(Ask(height, [row])), row_game(Ladder(height, row)))
            self.assertEqual(ask_game(Ask.always(height)), Game(height, "B", [(0, 0, 0)]))

    def test_several_rows(self):
        ask = Ask(2, [(2,), (1, 1)])
        positions = [(row_game(Ladder(2, row)), 0) for row in ((2,), (1, 1))]
        self.assertEqual(ask_game(ask), either(*positions))
        ask = Ask(3, [(3,), (2,), (1,)])
        positions = [(row_game(Ladder(3, row)), 0) for row in ((1,), (2,), (3,))]
        self.assertEqual(ask_game(ask), either(*positions))

    def test_there_and_back(self):
        for height, most in ((1, 4), (2, 4), (3, 3)):
            rows = all_rows_up_to(height, most)
            asks = [Ask(height, chosen) for count in (0, 1, 2) for chosen in itertools.combinations(rows, count)]
            seen = set()
            for ask in asks:
                size = sum(len(row) + 1 for row in ask.rows) + 1
                if len(ask.rows) > 1 and size > (4 if height == 3 else 5):
                    continue
                game = ask_game(ask)
                self.assertEqual(asked(game, 0), ask)
                seen.add(len(ask.rows))
            self.assertEqual(seen, {0, 1, 2} if height == 2 else {0, 1})

    def test_games_that_are_too_large_for_asked(self):
        rng = drawn(40)
        for turn in range(60):
            height = turn % 2 + 2
            ask = Ask(height, [draw_row(rng, height, 4) for _ in range(3)])
            if len(ask.rows) > 1 and sum(len(row) + 1 for row in ask.rows) > 8:
                self.assert_raises(TooLarge, ask_game, ask)
                continue
            game = ask_game(ask)
            for levels in many_levels(rng, height):
                self.assertEqual(0 in slow_told(game, levels), any(marked_holds(levels, row) for row in ask.rows))

    def test_too_large(self):
        self.assertEqual(ask_game(Ask(2, [(1, 1, 1), (2, 2, 2)])).size, 9)
        self.assert_raises(TooLarge, ask_game, Ask(2, [(1, 1, 1), (2, 2, 2, 2)]))
        self.assert_raises(TooLarge, ask_game, Ask(3, [(1, 1), (2, 2), (3, 3)]))
        self.assertEqual(ask_game(Ask(3, [(1,), (2, 2), (3, 3)])).size, 9)
        self.assertEqual(ask_game(Ask(2, [(2,) * 8])).size, 9)


class CoversTest(Case):
    def test_small(self):
        always, never = Game(1, "A", [(0, 2, 0)]), Game(1, "A", [(0, 1, 0)])
        self.assertIsNone(covers((PAIR, 0), (always, 0)))
        self.assertEqual(covers((always, 0), (PAIR, 0)), ())
        self.assertEqual(covers((PAIR, 1), (never, 0)), (1,))
        self.assertIsNone(covers((never, 0), (PAIR, 0)))
        self.assertIsNone(covers((never, 0), (never, 0)))
        self.assertIsNone(covers((PAIR, 0), (PAIR, 1)))

    def test_against_ladders(self):
        rng = drawn(41)
        none = 0
        for turn in range(90):
            height = turn % 3 + 1
            one, other = small_game(rng, height), small_game(rng, height)
            node, other_node = rng.randrange(one.size), rng.randrange(other.size)
            row = covers((one, node), (other, other_node))
            ask = asked(one, node)
            missing = [each for each in ask.rows if other_node not in slow_told(other, each)]
            self.assertEqual(row, missing[0] if missing else None)
            none += row is None
            if row is None:
                for levels in many_levels(rng, height):
                    self.assertTrue(node not in slow_told(one, levels) or other_node in slow_told(other, levels))
            else:
                self.assertIs(type(row), tuple)
        self.assertTrue(10 < none < 80)

    def test_height_mismatch(self):
        for height in (1, 2, 3):
            for other in (1, 2, 3):
                if height != other:
                    one, two = full_game(height), full_game(other)
                    self.assert_raises(HeightMismatch, covers, (one, 9), (two, -1))
                    small = Game(other, "B", [(0, 1, 0)])
                    self.assert_raises(HeightMismatch, covers, (small, 0), (one, 0))

    def test_errors_of_the_first_position_ahead_of_the_second(self):
        large = full_game(1)
        self.assert_raises(TooLarge, covers, (large, 0), (PAIR, 5))
        self.assert_raises(NoSuchNode, covers, (PAIR, 5), (large, 0), has={"node": 5})
        self.assert_raises(NoSuchNode, covers, (PAIR, 5), (PAIR, 6), has={"node": 5})
        self.assert_raises(NoSuchNode, covers, (PAIR, 0), (PAIR, -1), has={"node": -1})
        self.assert_raises(TooLarge, covers, (PAIR, 0), (large, 0))
        self.assert_raises(TooLarge, covers, (PAIR, 0), (large, 9))
        self.assert_raises(TooLarge, covers, (large, 9), (large, 0))

    def test_errors_of_the_second_position_if_the_first_has_no_rows(self):
        never = Game(1, "A", [(0, 1, 0)])
        self.assert_raises(TooLarge, covers, (never, 0), (full_game(1), 0))
        self.assert_raises(NoSuchNode, covers, (never, 0), (PAIR, 2), has={"node": 2})
