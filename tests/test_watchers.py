"""Points [45] and [47]: watchers."""

import itertools

from ladderreach.errors import BadHeight, BadMove, BadSize, NoSuchRank, NoSuchState
from ladderreach.watchers import Watcher, false_win, watch
from tests.drawnmachines import draw_good_moves, draw_moves, draw_watchers, has_false_win
from tests.helpers import Case, draw_word, drawn


def slow_watch(moves, word, state=0):
    """The states after each rank of the word."""
    states = []
    for rank in word:
        state = None if state is None else moves[state][rank]
        states.append(state)
    return states


def state_after(moves, word, state=0):
    return ([state] + slow_watch(moves, word, state))[-1]


def wrong_words(height, moves):
    """All stems and cycles with together at most as many ranks as there are states that are a false win."""
    for count in range(1, len(moves) + 1):
        for word in itertools.product(range(2 * height + 1), repeat=count):
            for cut in range(count):
                start = state_after(moves, word[:cut])
                if start is not None and state_after(moves, word[cut:], start) == start and max(word[cut:]) % 2:
                    yield list(word[:cut]), list(word[cut:])


class WatcherTest(Case):
    def test_attributes(self):
        watcher = Watcher(1, [[0, 1, None], [None, None, 0]])
        self.assertEqual(watcher.height, 1)
        self.assertEqual(watcher.size, 2)
        self.assertEqual(watcher.moves, ((0, 1, None), (None, None, 0)))
        for name in ("height", "size", "moves"):
            self.assertIn(name, vars(watcher))

    def test_kinds_of_sequences(self):
        for moves in ([[0, 1, None], [None, 1, 0]], ((0, 1, None), (None, 1, 0)), [(0, 1, None), [None, 1, 0]]):
            watcher = Watcher(1, moves)
            self.assertEqual(watcher.moves, ((0, 1, None), (None, 1, 0)))
            self.assertIs(type(watcher.moves), tuple)
            self.assertEqual([type(row) for row in watcher.moves], [tuple, tuple])

    def test_moves_are_copied(self):
        moves = [[0, 1, None], [None, 1, 0]]
        watcher = Watcher(1, moves)
        moves[0][0] = None
        moves[1] = [None] * 3
        moves.append([0, 0, 0])
        self.assertEqual(watcher.moves, ((0, 1, None), (None, 1, 0)))
        self.assertEqual(watcher.move(0, 0), 0)
        self.assertEqual(watch(watcher, [1, 1, 2]), [1, 1, 0])

    def test_most_states(self):
        self.assertEqual(Watcher.MOST_STATES, 9)
        self.assertEqual(vars(Watcher)["MOST_STATES"], 9)
        for height in (1, 2, 3):
            for size in range(1, 10):
                watcher = Watcher(height, [[(state + rank) % size for rank in range(2 * height + 1)]
                                           for state in range(size)])
                self.assertEqual(watcher.size, size)
                self.assertEqual(watcher.move(size - 1, 1), 0)

    def test_bad_height(self):
        for height in (-1, 0, 4, 9):
            self.assert_raises(BadHeight, Watcher, height, [[0, 0, 0]])
            self.assert_raises(BadHeight, Watcher, height, [])
            self.assert_raises(BadHeight, Watcher, height, [[None] * (2 * height + 1)])

    def test_bad_size(self):
        for height in (1, 2, 3):
            row = [None] * (2 * height + 1)
            self.assert_raises(BadSize, Watcher, height, [])
            self.assert_raises(BadSize, Watcher, height, ())
            for count in (10, 11, 30):
                self.assert_raises(BadSize, Watcher, height, [row] * count)

    def test_bad_move(self):
        for height in (1, 2, 3):
            many = 2 * height + 1
            wrong_rows = [[None] * (many - 1), [None] * (many + 1), [], [0] * (many + 5)]
            for at in range(many):
                wrong_rows.append([None if rank != at else -1 for rank in range(many)])
            for size in (1, 2, 5, 9):
                rows = [[(state + rank) % size for rank in range(many)] for state in range(size)]
                outside = [[0] * at + [size] + [None] * (many - 1 - at) for at in range(many)]
                for row in wrong_rows + outside:
                    for state in range(size):
                        wrong = rows[:state] + [row] + rows[state + 1:]
                        self.assert_raises(BadMove, Watcher, height, wrong, has={"state": state})

    def test_the_least_wrong_state(self):
        good, short, out = [0, None, 1], [0, 1], [0, 0, 4]
        self.assert_raises(BadMove, Watcher, 1, [good, out, short, out], has={"state": 1})
        self.assert_raises(BadMove, Watcher, 1, [good, good, short, out], has={"state": 2})
        self.assert_raises(BadMove, Watcher, 1, [short, [0, -1, 0]], has={"state": 0})
        self.assert_raises(BadMove, Watcher, 1, [good, good, good, [None, None, 9]], has={"state": 3})

    def test_errors_in_order(self):
        self.assert_raises(BadHeight, Watcher, 0, [[9]] * 10)
        self.assert_raises(BadHeight, Watcher, 4, [[9]])
        self.assert_raises(BadSize, Watcher, 1, [[9]] * 10)
        self.assert_raises(BadMove, Watcher, 3, [[0, 0, 0]], has={"state": 0})

    def test_move(self):
        rng = drawn(45)
        for height, moves in draw_watchers(rng, 30):
            watcher = Watcher(height, moves)
            for state, row in enumerate(moves):
                for rank, end in enumerate(row):
                    self.assertEqual(watcher.move(state, rank), end)

    def test_move_errors_in_order(self):
        for height in (1, 2, 3):
            for size in (1, 4, 9):
                watcher = Watcher(height, [[0] * (2 * height + 1)] * size)
                for state in (-1, size, 50):
                    for rank in (0, -1, 2 * height + 1):
                        self.assert_raises(NoSuchState, watcher.move, state, rank, has={"state": state})
                for rank in (-1, 2 * height + 1, 20):
                    for state in (0, size - 1):
                        self.assert_raises(NoSuchRank, watcher.move, state, rank, has={"rank": rank})


class WatchTest(Case):
    def test_small(self):
        watcher = Watcher(1, [[0, 1, None], [None, 1, 0]])
        self.assertEqual(watch(watcher, [0, 1, 1, 2, 2, 0, 1]), [0, 1, 1, 0, None, None, None])
        self.assertEqual(watch(watcher, (1, 0)), [1, None])
        self.assertEqual(watch(watcher, []), [])
        self.assertEqual(watch(watcher, ()), [])
        self.assertIs(type(watch(watcher, (1, 0))), list)

    def test_against_the_moves(self):
        rng = drawn(450)
        off = 0
        for height, moves in draw_watchers(rng, 120):
            word = draw_word(rng, height, 30)
            kept = list(word)
            states = watch(Watcher(height, moves), word)
            self.assertEqual(states, slow_watch(moves, word))
            self.assertEqual(watch(Watcher(height, moves), tuple(word)), states)
            self.assertEqual(word, kept)
            off += None in states
        self.assertGreater(off, 30)

    def test_no_such_rank(self):
        watcher = Watcher(1, [[0, 1, None], [None, 1, 0]])
        for rank in (-1, 3, 8):
            has = {"rank": rank}
            self.assert_raises(NoSuchRank, watch, watcher, [rank], has=has)
            self.assert_raises(NoSuchRank, watch, watcher, [0, 1, rank, 50], has=has)
            # The watcher is off by then.
            self.assert_raises(NoSuchRank, watch, watcher, (2, rank), has=has)
            self.assert_raises(NoSuchRank, watch, watcher, [2, 0, 0, 0, rank, -50], has=has)
        for height in (2, 3):
            watcher = Watcher(height, [[None] * (2 * height + 1)])
            self.assertEqual(watch(watcher, [2 * height, 0]), [None, None])
            self.assert_raises(NoSuchRank, watch, watcher, [0, 2 * height + 1], has={"rank": 2 * height + 1})

    def test_long_words(self):
        for height in (1, 2, 3):
            moves = [[(state + rank + 1) % 9 for rank in range(2 * height + 1)] for state in range(9)]
            word = [(3 * k) % (2 * height + 1) for k in range(2000)]
            self.assertEqual(watch(Watcher(height, moves), word), slow_watch(moves, word))


class FalseWinTest(Case):
    def assert_false_win(self, height, moves, found):
        """It is what the document says of a false win."""
        self.assertIs(type(found), tuple)
        stem, cycle = found
        self.assertEqual((type(stem), type(cycle)), (list, list))
        start = state_after(moves, stem)
        self.assertIsNotNone(start)
        self.assertGreater(len(cycle), 0)
        self.assertEqual(state_after(moves, cycle, start), start)
        self.assertEqual(max(cycle) % 2, 1)
        self.assertLessEqual(len(stem) + len(cycle), len(moves))
        self.assertTrue(all(0 <= rank <= 2 * height for rank in stem + cycle))

    def test_small(self):
        self.assertEqual(false_win(Watcher(1, [[None, 0, None]])), ([], [1]))
        self.assertIsNone(false_win(Watcher(1, [[0, None, 0]])))
        self.assertIsNone(false_win(Watcher(1, [[None, None, None]])))
        self.assertEqual(false_win(Watcher(1, [[1, None, None], [None, 1, None]])), ([0], [1]))
        self.assertIsNone(false_win(Watcher(1, [[None, 1, None], [None, None, 0]])))
        self.assertEqual(false_win(Watcher(1, [[None, 1, None], [0, None, None]])), ([], [1, 0]))
        self.assertEqual(false_win(Watcher(2, [[None, None, None, 1, None], [None, None, 0, None, None]])), ([], [3, 2]))
        self.assertIsNone(false_win(Watcher(2, [[None, None, None, 1, None], [None, None, None, None, 0]])))

    def test_against_all_short_words(self):
        rng = drawn(47)
        seen = {True: 0, False: 0}
        for height, most in ((1, 5), (2, 4), (3, 3)):
            for turn in range(60):
                size = rng.randint(1, most)
                draw = draw_good_moves if turn % 4 == 0 else draw_moves
                moves = draw(rng, height, size, rng.choice((0.3, 0.6, 0.8)))
                found = false_win(Watcher(height, moves))
                words = list(wrong_words(height, moves))
                self.assertEqual(found is None, words == [])
                self.assertTrue(found is None or found in words)
                seen[found is None] += 1
        self.assertGreater(min(seen.values()), 40)

    def test_all_watchers_of_two_states(self):
        for row in itertools.product((None, 0, 1), repeat=3):
            for other in itertools.product((None, 0, 1), repeat=3):
                found = false_win(Watcher(1, [row, other]))
                words = list(wrong_words(1, [row, other]))
                self.assertTrue(found in words if words else found is None)

    def test_larger_watchers(self):
        rng = drawn(471)
        seen = {True: 0, False: 0}
        longest = 0
        for height, moves in draw_watchers(rng, 400):
            found = false_win(Watcher(height, moves))
            self.assertEqual(found is not None, has_false_win(moves))
            seen[found is None] += 1
            if found is not None:
                self.assert_false_win(height, moves, found)
                longest = max(longest, len(found[0]))
        self.assertGreater(min(seen.values()), 100)
        self.assertGreater(longest, 1)

    def test_long_stems_and_cycles(self):
        for height in (1, 2, 3):
            for first in range(9):
                # Eight even moves in a row, and one odd move back to some state.
                moves = [[state + 1] + [None] * (2 * height) for state in range(8)]
                moves.append([None] * (2 * height - 1) + [first, None])
                expected = [0] * first, [0] * (8 - first) + [2 * height - 1]
                self.assertEqual(false_win(Watcher(height, moves)), expected)
                moves[first][2 * height] = 8
                self.assertEqual(false_win(Watcher(height, moves)), expected)

    def test_the_stem_meets_the_cycle_only_at_its_end(self):
        # The odd edge is far from where the cycle is entered: there is a shorter way to the cycle.
        moves = [[1, None, None], [2, None, None], [3, None, None], [None, 1, None]]
        self.assertEqual(false_win(Watcher(1, moves)), ([0], [0, 0, 1]))
        moves = [[1, None, None], [2, None, None], [None, 3, None], [1, None, None]]
        self.assertEqual(false_win(Watcher(1, moves)), ([0], [0, 1, 0]))

    def test_states_that_are_not_reachable(self):
        odd = [None, 1, None]
        self.assertIsNone(false_win(Watcher(1, [[0, None, 0], odd])))
        self.assertIsNone(false_win(Watcher(1, [[None, None, 0], odd, [0, 1, 2]])))
        self.assertEqual(false_win(Watcher(1, [[0, None, 1], odd])), ([2], [1]))
        # A way out of a bad cycle is no way into it.
        self.assertIsNone(false_win(Watcher(2, [[0] + [None] * 4, [0, 1, 1, 1, 0]])))

    def test_the_lists_are_new(self):
        watcher = Watcher(1, [[1, None, None], [None, 1, None]])
        stem, cycle = false_win(watcher)
        stem.append(5)
        cycle.clear()
        self.assertEqual(false_win(watcher), ([0], [1]))

    def test_limits(self):
        rng = drawn(472)
        for height in (1, 2, 3):
            for turn in range(20):
                for draw in (draw_moves, draw_good_moves):
                    moves = draw(rng, height, 9, 0)
                    found = false_win(Watcher(height, moves))
                    self.assertEqual(found is not None, has_false_win(moves))
                    if found is not None:
                        self.assert_false_win(height, moves, found)
