"""Points [44] and [47]: words by which two ladders differ, and games with only one walk."""

import itertools

from ladderreach.errors import BadHeight, BadSize, HeightMismatch, NoSuchRank, TooLarge
from ladderreach.games import Game
from ladderreach.ladders import Ladder
from ladderreach.plans import play
from ladderreach.readers import read
from ladderreach.staying import watched_nodes
from ladderreach.watchers import Watcher, false_win
from ladderreach.winners import solve
from ladderreach.words import parting_word, word_game
from tests.drawnmachines import draw_watchers
from tests.helpers import (
    Case, all_rows_up_to, draw_word, drawn, long_levels, marked_holds, pairs_of_levels, slow_step,
)


def searched_word(height, levels, other_levels, most):
    """The first of all words with up to this many ranks that parts the two readers."""
    words = [([], len(levels), len(other_levels))]
    for _ in range(most):
        following = []
        for word, step, other_step in words:
            for rank in range(2 * height + 1):
                end, other_end = slow_step(levels, step, rank), slow_step(other_levels, other_step, rank)
                if end is not None and other_end is None:
                    return word + [rank]
                # Once a reader is off it stays off.
                if end is not None:
                    following.append((word + [rank], end, other_end))
        words = following
    return None


def slow_parting_word(height, levels, other_levels):
    """The least number of ranks for each pair of steps, and then the least rank that keeps to it each time."""
    ranks = range(2 * height + 1)
    table = [[slow_step(levels, step, rank) for rank in ranks] for step in range(len(levels) + 1)]
    other_table = [[slow_step(other_levels, step, rank) for rank in ranks] for step in range(len(other_levels) + 1)]
    pairs = list(itertools.product(range(len(levels) + 1), range(len(other_levels) + 1)))
    counts = {(step, None): 0 for step in range(len(levels) + 1)}
    found = 1
    while found:
        new = {pair: min(counts[end] + 1 for end in ends if end in counts) for pair in pairs if pair not in counts
               for ends in [[(table[pair[0]][rank], other_table[pair[1]][rank]) for rank in ranks]]
               if any(end in counts for end in ends)}
        found = len(new)
        counts.update(new)
    pair = (len(levels), len(other_levels))
    if pair not in counts:
        return None
    word = []
    while counts[pair] > 0:
        ends = [(table[pair[0]][rank], other_table[pair[1]][rank]) for rank in ranks]
        rank = min(rank for rank in ranks if counts.get(ends[rank]) == counts[pair] - 1)
        word.append(rank)
        pair = ends[rank]
    return word


class PartingWordTest(Case):
    def test_small(self):
        self.assertEqual(parting_word(Ladder(1, [1]), Ladder(1, [])), [1])
        self.assertIsNone(parting_word(Ladder(1, []), Ladder(1, [1])))
        self.assertIsNone(parting_word(Ladder(1, []), Ladder(1, [])))
        self.assertEqual(parting_word(Ladder(1, [1, 1, 1]), Ladder(1, [1, 1])), [1, 1, 1])
        self.assertEqual(parting_word(Ladder(2, [2]), Ladder(2, [1])), [3])
        self.assertEqual(parting_word(Ladder(2, [1]), Ladder(2, [])), [1])
        self.assertEqual(parting_word(Ladder(2, [1, 1]), Ladder(2, [2])), [1, 1])
        # Rank 3 leads one reader to the step 1, the other to the step 0.
        self.assertEqual(parting_word(Ladder(2, [1, 2]), Ladder(2, [2, 1])), [3, 1])

    def test_against_a_search_through_all_words(self):
        rng = drawn(44)
        seen = {"found": 0, "longer": 0, "none": 0}
        for height, levels, other_levels in pairs_of_levels(rng, 4, 240):
            most = {1: 7, 2: 5, 3: 4}[height]
            word = parting_word(Ladder(height, levels), Ladder(height, other_levels))
            searched = searched_word(height, levels, other_levels, most)
            if searched is None:
                self.assertTrue(word is None or len(word) > most)
                seen["none" if word is None else "longer"] += 1
            else:
                self.assertEqual(word, searched)
                self.assertIs(type(word), list)
                seen["found"] += 1
        self.assertGreater(min(seen["found"], seen["none"]), 50)
        self.assertGreater(seen["longer"], 0)

    def test_all_short_ladders(self):
        for height, most in ((1, 4), (2, 3), (3, 2)):
            rows = all_rows_up_to(height, most)
            for levels, other_levels in itertools.product(rows, rows):
                word = parting_word(Ladder(height, levels), Ladder(height, other_levels))
                self.assertEqual(word, slow_parting_word(height, levels, other_levels))

    def test_none_exactly_if_the_other_holds_it(self):
        rng = drawn(440)
        seen = {True: 0, False: 0}
        for height, levels, other_levels in pairs_of_levels(rng, 24, 48):
            word = parting_word(Ladder(height, levels), Ladder(height, other_levels))
            none = marked_holds(other_levels, levels)
            self.assertEqual(word is None, none)
            seen[none] += 1
            self.assertEqual(word, slow_parting_word(height, levels, other_levels))
            if word is not None:
                self.assertIsNotNone(read(Ladder(height, levels), word)[-1])
                other = read(Ladder(height, other_levels), word)
                self.assertIsNone(other[-1])
                self.assertNotIn(None, other[:-1])
        self.assertGreater(min(seen.values()), 8)

    def test_limits(self):
        for height in (1, 2, 3):
            levels = long_levels(height)
            # A rank of 1 leads one step down on every ladder.
            self.assertEqual(parting_word(Ladder(height, [height] * 24), Ladder(height, [height] * 23)), [1] * 24)
            for other_levels in (levels, levels[:23], levels[1:], levels[::-1], (1,) * 24, (height,) * 24, ()):
                self.assertEqual(
                    parting_word(Ladder(height, levels), Ladder(height, other_levels)),
                    slow_parting_word(height, levels, other_levels))
        self.assertIsNone(parting_word(Ladder(3, long_levels(3)), Ladder(3, long_levels(3))))

    def test_the_list_is_new(self):
        one, other = Ladder(1, [1, 1]), Ladder(1, [])
        word = parting_word(one, other)
        word.append(7)
        self.assertEqual(parting_word(one, other), [1])

    def test_height_mismatch(self):
        self.assert_raises(HeightMismatch, parting_word, Ladder(2, []), Ladder(1, []))
        self.assert_raises(HeightMismatch, parting_word, Ladder(2, [1] * 24), Ladder(3, [1] * 24))
        self.assert_raises(HeightMismatch, parting_word, Ladder(3, []), Ladder(2, []))


class WordGameTest(Case):
    def test_small(self):
        self.assertEqual(word_game(1, [], [2]), Game(1, "B", [(0, 2, 0)]))
        self.assertEqual(word_game(1, [0], [1]), Game(1, "BB", [(0, 0, 1), (1, 1, 1)]))
        self.assertEqual(word_game(2, [], [4, 3]), Game(2, "BB", [(0, 4, 1), (1, 3, 0)]))
        self.assertEqual(
            word_game(2, [1, 0], [4, 3, 3]),
            Game(2, "BBBBB", [(0, 1, 1), (1, 0, 2), (2, 4, 3), (3, 3, 4), (4, 3, 2)]))

    def test_the_only_walk(self):
        rng = drawn(47)
        for turn in range(150):
            height = turn % 3 + 1
            stem, cycle = draw_word(rng, height, 4), draw_word(rng, height, 4) + [rng.randint(0, 2 * height)]
            kept = list(stem), list(cycle)
            game = word_game(height, stem, cycle)
            self.assertEqual(game, word_game(height, tuple(stem), tuple(cycle)))
            self.assertEqual((stem, cycle), kept)
            self.assertEqual(game.height, height)
            self.assertEqual(game.owners, "B" * len(stem + cycle))
            self.assertEqual([edge[0] for edge in game.edges], list(range(game.size)))
            winner, first, second = play(game, list(game.edges), 0)
            self.assertEqual([edge[1] for edge in first], stem)
            self.assertEqual([edge[1] for edge in second], cycle)
            self.assertEqual(winner, "B" if max(cycle) % 2 else "A")

    def test_limits(self):
        for height in (1, 2, 3):
            word = [k % (2 * height + 1) for k in range(9)]
            for cut in range(9):
                game = word_game(height, word[:cut], word[cut:])
                self.assertEqual([edge[1] for edge in game.edges], word)
                self.assertEqual(game.out(8), ((8, word[8], cut),))
            for cut in range(10):
                self.assert_raises(TooLarge, word_game, height, [0] * cut, [0] * (10 - cut))
        self.assert_raises(TooLarge, word_game, 1, [0] * 50, [0] * 50)

    def test_no_such_rank(self):
        for height in (1, 2, 3):
            for rank in (-1, 2 * height + 1, 70):
                has = {"rank": rank}
                self.assert_raises(NoSuchRank, word_game, height, [], [rank], has=has)
                self.assert_raises(NoSuchRank, word_game, height, [0, rank, 99], [0, 98], has=has)
                self.assert_raises(NoSuchRank, word_game, height, [0, 0], [0, rank, -5], has=has)
                self.assert_raises(NoSuchRank, word_game, height, (rank,), (-7,), has=has)

    def test_errors_in_order(self):
        for height in (-1, 0, 4):
            self.assert_raises(BadHeight, word_game, height, [], [])
            self.assert_raises(BadHeight, word_game, height, [9] * 10, [1])
            self.assert_raises(BadHeight, word_game, height, [], [0])
        self.assert_raises(BadSize, word_game, 1, [], [])
        self.assert_raises(BadSize, word_game, 1, [9] * 10, ())
        self.assert_raises(BadSize, word_game, 3, [-1], [])
        self.assert_raises(TooLarge, word_game, 1, [9] * 9, [9])
        self.assert_raises(TooLarge, word_game, 1, [], [-1] * 10)

    def test_the_game_of_a_false_win(self):
        rng = drawn(470)
        found = 0
        for height, moves in draw_watchers(rng, 200):
            watcher = Watcher(height, moves)
            wrong = false_win(watcher)
            if wrong is not None:
                game = word_game(height, *wrong)
                self.assertIn(0, watched_nodes(game, watcher))
                self.assertEqual(solve(game)[0][0], "B")
                found += 1
        self.assertGreater(found, 50)
