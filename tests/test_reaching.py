"""Point [34]: the reach of ladders."""

from ladderreach.climbing import told_nodes
from ladderreach.errors import BadSize, TooLarge
from ladderreach.ladders import Ladder
from ladderreach.reaching import failing_game, lacking, reach
from ladderreach.rowgames import row_game
from ladderreach.winners import solve
from tests.helpers import (
    Case, all_rows_up_to, draw_game, draw_row, drawn, long_levels, marked_holds, slow_lacking, slow_reach,
)

MOST_COUNTS = {1: 25, 2: 9, 3: 6}

# Up to these counts the halving and the plain ladder have at most 12 levels.
MOST_SHAPED = {1: 13, 2: 3, 3: 2}


def ladders_up_to_12(rng, turns):
    """(height, levels): all short ones, drawn ones, and halving and plain ones."""
    for height in (1, 2, 3):
        for levels in all_rows_up_to(height, 4):
            yield height, levels
        for call in (Ladder.halving, Ladder.plain):
            for count in range(1, MOST_SHAPED[height] + 1):
                yield height, call(height, count).levels
        for _ in range(turns):
            yield height, draw_row(rng, height, 12)
    yield 2, Ladder.halving(2, 4).levels
    yield 2, Ladder.halving(2, 5).levels
    yield 3, (2, 3, 1, 2, 3, 1, 2, 3, 1, 2, 3, 2)


class LackingTest(Case):
    def test_example(self):
        self.assertEqual(lacking(Ladder(2, [2, 1, 1, 2]), 4), (1, 1, 1))

    def test_short_ladders(self):
        for height in (1, 2, 3):
            for levels in all_rows_up_to(height, 4):
                for count in range(1, 5):
                    row = lacking(Ladder(height, levels), count)
                    self.assertEqual(row, slow_lacking(levels, height, count))
                    self.assertTrue(row is None or type(row) is tuple)

    def test_drawn_ladders(self):
        rng = drawn(34)
        held = 0
        for turn in range(60):
            height = turn % 3 + 1
            levels = draw_row(rng, height)
            for count in range(1, 7):
                row = lacking(Ladder(height, levels), count)
                self.assertEqual(row, slow_lacking(levels, height, count, marked_holds))
                held += row is None
        self.assertGreater(held, 60)

    def test_count_one(self):
        for height in (1, 2, 3):
            for levels in ((), (1,), long_levels(height)):
                self.assertIsNone(lacking(Ladder(height, levels), 1))

    def test_every_allowed_count(self):
        for height in (1, 2, 3):
            levels = long_levels(height)
            for count in range(1, MOST_COUNTS[height] + 1):
                expected = slow_lacking(levels, height, count, marked_holds)
                self.assertEqual(lacking(Ladder(height, levels), count), expected)
                row = lacking(Ladder(height, []), count)
                self.assertEqual(row, None if count == 1 else (1,) * (count - 1))

    def test_ladders_that_hold_all_rows(self):
        self.assertIsNone(lacking(Ladder(1, [1] * 24), 25))
        self.assertEqual(lacking(Ladder(1, [1] * 23), 25), (1,) * 24)
        self.assertIsNone(lacking(Ladder.plain(2, 5), 5))
        self.assertIsNone(lacking(Ladder.halving(2, 5), 5))
        self.assertIsNone(lacking(Ladder.halving(3, 3), 3))
        last = Ladder(2, [1, 2, 1])
        self.assertIsNone(lacking(last, 2))
        self.assertEqual(lacking(last, 3), (1, 1))
        self.assertEqual(lacking(Ladder(2, [1, 1, 2]), 3), (2, 1))

    def test_errors(self):
        for height in (1, 2, 3):
            for levels in ((), long_levels(height)):
                ladder = Ladder(height, levels)
                for count in (0, -1, -30):
                    self.assert_raises(BadSize, lacking, ladder, count)
                for more in (1, 2, 40):
                    self.assert_raises(TooLarge, lacking, ladder, MOST_COUNTS[height] + more)


class ReachTest(Case):
    def test_example(self):
        self.assertEqual(reach(Ladder(2, [2, 1, 1, 2])), 3)

    def test_against_the_rows(self):
        found = {}
        for height, levels in ladders_up_to_12(drawn(340), 40):
            count = reach(Ladder(height, levels))
            self.assertEqual(count, slow_reach(levels, height))
            found.setdefault(height, set()).add(count)
        self.assertEqual(found, {1: set(range(1, 14)), 2: {1, 2, 3, 4, 5}, 3: {1, 2, 3}})

    def test_shaped_ladders(self):
        for height in (1, 2, 3):
            for call in (Ladder.halving, Ladder.plain):
                for count in range(1, MOST_SHAPED[height] + 1):
                    ladder = call(height, count)
                    self.assertGreaterEqual(reach(ladder), count)
                    if height == 1:
                        self.assertEqual(reach(ladder), count)
        self.assertEqual(reach(Ladder.halving(2, 5)), 5)

    def test_too_large(self):
        for height in (1, 2, 3):
            levels = long_levels(height)
            self.assertEqual(reach(Ladder(height, levels[:12])), slow_reach(levels[:12], height))
            for count in (13, 14, 24):
                self.assert_raises(TooLarge, reach, Ladder(height, levels[:count]))

    def test_ladders_tell_what_a_wins_up_to_their_reach(self):
        rng = drawn(341)
        some = 0
        for height, levels in ladders_up_to_12(rng, 10):
            ladder = Ladder(height, levels)
            game = draw_game(rng, most_size=min(9, reach(ladder)), most_out=2, height=height)
            won = [node for node, winner in enumerate(solve(game)[0]) if winner == "A"]
            self.assertEqual(told_nodes(game, ladder), won)
            some += len(won)
        self.assertGreater(some, 100)


class FailingGameTest(Case):
    def test_small(self):
        self.assertEqual(failing_game(Ladder(2, [2, 1, 1, 2])), row_game(Ladder(2, [1, 1, 1])))
        self.assertEqual(failing_game(Ladder(2, [1, 1, 2])), row_game(Ladder(2, [2, 1])))
        for height in (1, 2, 3):
            self.assertEqual(failing_game(Ladder(height, [])), row_game(Ladder(height, [1])))

    def test_ladders(self):
        for height, levels in ladders_up_to_12(drawn(342), 40):
            ladder = Ladder(height, levels)
            if reach(ladder) > 8:
                continue
            game = failing_game(ladder)
            row = slow_lacking(levels, height, reach(ladder) + 1, marked_holds)
            self.assertEqual(game, row_game(Ladder(height, row)))
            self.assertEqual(game.size, reach(ladder) + 1)
            self.assertEqual(solve(game)[0], "A" * game.size)
            self.assertEqual(told_nodes(game, ladder), [])

    def test_too_large(self):
        for height in (1, 2, 3):
            for count in (13, 24):
                self.assert_raises(TooLarge, failing_game, Ladder(height, long_levels(height)[:count]))
        self.assertEqual(failing_game(Ladder(1, [1] * 7)).size, 9)
        for count in range(8, 14):
            self.assert_raises(TooLarge, failing_game, Ladder(1, [1] * count))
        for height in (2, 3):
            ladder = Ladder(height, long_levels(height)[:12])
            self.assertEqual(failing_game(ladder).size, reach(ladder) + 1)
