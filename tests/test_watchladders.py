"""Point [48]: ladders that do what watchers do, and watchers that do what ladders do."""

from ladderreach.climbing import climb, told_nodes
from ladderreach.errors import TooLarge
from ladderreach.ladders import Ladder
from ladderreach.readers import read
from ladderreach.staying import staying, watched_nodes
from ladderreach.watchers import Watcher, watch
from ladderreach.watchladders import ladder_of, watcher_of
from tests.drawnmachines import draw_good_moves, draw_watchers, has_false_win, reachable_states
from tests.helpers import (
    Case, all_rows_up_to, allowed, draw_fitting_game, draw_game, draw_row, draw_word, drawn, full_game, long_levels,
)


class LadderOfTest(Case):
    def assert_ladder_of(self, height, moves, found):
        """It is what the document says of the ladder and the steps of a watcher."""
        self.assertIs(type(found), tuple)
        ladder, steps = found
        reachable = reachable_states(moves)
        self.assertIs(type(ladder), Ladder)
        self.assertEqual(ladder.height, height)
        self.assertLess(ladder.top, len(reachable))
        self.assertIs(type(steps), list)
        self.assertEqual([state for state, step in enumerate(steps) if step is not None], reachable)
        self.assertEqual(len(steps), len(moves))
        for state in reachable:
            self.assertIn(steps[state], range(ladder.top + 1))
            for rank, end in enumerate(moves[state]):
                if end is not None:
                    self.assertTrue(allowed(ladder.levels, steps[state], rank, steps[end]))

    def test_small(self):
        self.assertEqual(ladder_of(Watcher(1, [[0, None, 0]])), (Ladder(1, []), [0]))
        self.assertIsNone(ladder_of(Watcher(1, [[None, 0, None]])))
        self.assertEqual(ladder_of(Watcher(1, [[None, 1, None], [None, None, 0]])), (Ladder(1, [1]), [1, 0]))
        self.assertEqual(ladder_of(Watcher(3, [[None] * 7, [0] * 7])), (Ladder(3, []), [0, None]))
        self.assertEqual(
            ladder_of(Watcher(2, [[0, None, 0, 2, 0], [1] * 5, [2, None, 2, None, 0]])), (Ladder(2, [2]), [1, None, 0]))

    def test_drawn_watchers(self):
        rng = drawn(48)
        seen = {"none": 0, "all": 0, "some": 0}
        for height, moves in draw_watchers(rng, 400):
            found = ladder_of(Watcher(height, moves))
            if has_false_win(moves):
                self.assertIsNone(found)
                seen["none"] += 1
            else:
                self.assert_ladder_of(height, moves, found)
                seen["some" if None in found[1] else "all"] += 1
        self.assertGreater(min(seen.values()), 60)

    def test_states_that_are_not_reachable(self):
        # Their moves may be as bad as they like, and they need no step.
        odd = [1] * 7
        self.assertEqual(ladder_of(Watcher(3, [[0] + [None] * 6, odd])), (Ladder(3, []), [0, None]))
        ladder, steps = ladder_of(Watcher(3, [[None, 2] + [None] * 5, odd, [2] + [None] * 6, [0] * 7]))
        self.assertEqual(steps[1], None)
        self.assertEqual(steps[3], None)
        self.assertEqual((ladder.top, steps[0], steps[2]), (1, 1, 0))

    def test_the_ladder_tells_what_the_watcher_tells(self):
        rng = drawn(480)
        told = 0
        for turn in range(150):
            height = turn % 3 + 1
            moves = draw_good_moves(rng, height, rng.randint(1, 9), rng.choice((0, 0.2)))
            watcher = Watcher(height, moves)
            ladder, _ = ladder_of(watcher)
            if turn % 2:
                game = draw_game(rng, most_out=2, height=height)
            else:
                game, _ = draw_fitting_game(rng, height, ladder.levels, most_out=2)
            found = watched_nodes(game, watcher)
            self.assertLessEqual(set(found), set(told_nodes(game, ladder)))
            told += len(found)
        self.assertGreater(told, 100)

    def test_limits(self):
        rng = drawn(481)
        for height in (1, 2, 3):
            for _ in range(10):
                moves = draw_good_moves(rng, height, 9, 0)
                self.assert_ladder_of(height, moves, ladder_of(Watcher(height, moves)))
            moves = [[8] * (2 * height + 1)] * 9
            self.assertIsNone(ladder_of(Watcher(height, moves)))

    def test_the_list_is_new(self):
        watcher = Watcher(1, [[None, 1, None], [None, None, 0]])
        _, steps = ladder_of(watcher)
        steps.clear()
        self.assertEqual(ladder_of(watcher), (Ladder(1, [1]), [1, 0]))


class WatcherOfTest(Case):
    def test_small(self):
        self.assertEqual(watcher_of(Ladder(1, [])).moves, ((0, None, 0),))
        self.assertEqual(watcher_of(Ladder(1, [1])).moves, ((0, 1, 0), (1, None, 0)))
        watcher = watcher_of(Ladder(2, [1, 2]))
        self.assertIs(type(watcher), Watcher)
        self.assertEqual((watcher.height, watcher.size), (2, 3))
        self.assertEqual(watcher.moves, ((0, 1, 0, 1, 0), (1, 2, 1, None, 0), (2, None, 1, None, 0)))

    def test_it_does_what_a_reader_does(self):
        rng = drawn(482)
        for turn in range(120):
            height = turn % 3 + 1
            ladder = Ladder(height, draw_row(rng, height, 8))
            watcher = watcher_of(ladder)
            self.assertEqual((watcher.height, watcher.size), (height, ladder.top + 1))
            word = draw_word(rng, height, 25)
            states = watch(watcher, word)
            self.assertEqual([None if state is None else ladder.top - state for state in states], read(ladder, word))
            for state in range(watcher.size):
                for rank in range(2 * height + 1):
                    end = watcher.move(state, rank)
                    step = ladder.greatest(ladder.top - state, rank)
                    self.assertEqual(end, None if step is None else ladder.top - step)

    def test_too_large(self):
        for height in (1, 2, 3):
            levels = long_levels(height)
            self.assertEqual(watcher_of(Ladder(height, levels[:8])).size, 9)
            for count in (9, 10, 24):
                self.assert_raises(TooLarge, watcher_of, Ladder(height, levels[:count]))

    def test_staying_against_climbing(self):
        rng = drawn(483)
        off = 0
        for turn in range(180):
            height = turn % 3 + 1
            levels = draw_row(rng, height, 8)
            ladder = Ladder(height, levels)
            if turn % 2:
                game = draw_game(rng, most_out=3, height=height)
            else:
                game, _ = draw_fitting_game(rng, height, levels)
            found = staying(game, watcher_of(ladder))
            for step, states in zip(climb(game, ladder), found):
                self.assertEqual(states, [] if step is None else list(range(ladder.top - step + 1)))
                off += step is None
        self.assertGreater(off, 100)

    def test_staying_on_the_largest_game(self):
        for height in (1, 2, 3):
            ladder = Ladder(height, long_levels(height)[:8])
            game = full_game(height)
            expected = [[] if step is None else list(range(9 - step)) for step in climb(game, ladder)]
            self.assertEqual(staying(game, watcher_of(ladder)), expected)

    def test_there_and_back(self):
        for height, most in ((1, 8), (2, 5), (3, 3)):
            for levels in all_rows_up_to(height, most):
                ladder = Ladder(height, levels)
                self.assertEqual(ladder_of(watcher_of(ladder)), (ladder, list(range(ladder.top, -1, -1))))
        rng = drawn(484)
        for turn in range(60):
            height = turn % 3 + 1
            ladder = Ladder(height, [rng.randint(1, height) for _ in range(rng.randint(6, 8))])
            self.assertEqual(ladder_of(watcher_of(ladder)), (ladder, list(range(ladder.top, -1, -1))))
