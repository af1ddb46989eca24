"""Point [35]: rows by which two ladders differ."""

from ladderreach.climbing import told_nodes
from ladderreach.errors import HeightMismatch, TooLarge
from ladderreach.ladders import Ladder
from ladderreach.partings import alike_up_to, compare, parting_row
from ladderreach.rowgames import row_game
from tests.helpers import Case, all_rows_up_to, draw_game, drawn, long_levels, marked_holds, pairs_of_levels


def slow_parting_row(height, levels, other_levels):
    for row in all_rows_up_to(height, len(levels)):
        if marked_holds(levels, row) and not marked_holds(other_levels, row):
            return row
    return None


class CompareTest(Case):
    def test_each_answer(self):
        ladder = Ladder(2, [1, 2, 1])
        self.assertEqual(compare(ladder, Ladder(2, (1, 2, 1))), "same")
        self.assertEqual(compare(ladder, Ladder(2, [2, 1])), "more")
        self.assertEqual(compare(Ladder(2, [2, 1]), ladder), "less")
        self.assertEqual(compare(ladder, Ladder(2, [1, 1])), "apart")
        self.assertEqual(compare(Ladder(2, [1, 1]), ladder), "apart")
        self.assertEqual(compare(Ladder(3, []), Ladder(3, [])), "same")

    def test_all_short_ladders(self):
        for height in (1, 2, 3):
            rows = all_rows_up_to(height, 3)
            for levels in rows:
                for other_levels in rows:
                    more = marked_holds(levels, other_levels)
                    less = marked_holds(other_levels, levels)
                    expected = {(True, True): "same", (True, False): "more", (False, True): "less"}.get(
                        (more, less), "apart")
                    self.assertEqual(compare(Ladder(height, levels), Ladder(height, other_levels)), expected)
                    self.assertEqual(more and less, levels == other_levels)

    def test_long_ladders(self):
        for height in (1, 2, 3):
            levels = long_levels(height)
            self.assertEqual(compare(Ladder(height, levels), Ladder(height, levels)), "same")
            self.assertEqual(compare(Ladder(height, levels), Ladder(height, levels[:23])), "more")
            self.assertEqual(compare(Ladder(height, levels[1:]), Ladder(height, levels)), "less")
        self.assertEqual(compare(Ladder(2, [1] * 24), Ladder(2, [2] * 24)), "apart")

    def test_a_ladder_that_holds_another_tells_more(self):
        rng = drawn(35)
        seen = []
        for height, levels, other_levels in pairs_of_levels(rng, 8, 150):
            answer = compare(Ladder(height, levels), Ladder(height, other_levels))
            seen.append(answer)
            game = draw_game(rng, most_size=6, most_out=2, height=height)
            told = set(told_nodes(game, Ladder(height, levels)))
            other_told = set(told_nodes(game, Ladder(height, other_levels)))
            if answer in ("same", "more"):
                self.assertLessEqual(other_told, told)
            if answer in ("same", "less"):
                self.assertLessEqual(told, other_told)
        self.assertEqual(set(seen), {"same", "more", "less", "apart"})

    def test_height_mismatch(self):
        self.assert_raises(HeightMismatch, compare, Ladder(2, []), Ladder(1, []))
        self.assert_raises(HeightMismatch, compare, Ladder(2, [1] * 24), Ladder(3, [1] * 24))


class PartingRowTest(Case):
    def test_small(self):
        self.assertEqual(parting_row(Ladder(2, [1, 2, 1]), Ladder(2, [2])), (1,))
        self.assertEqual(parting_row(Ladder(2, [1, 1, 2]), Ladder(2, [1, 2])), (1, 1))
        self.assertIsNone(parting_row(Ladder(2, [1, 2]), Ladder(2, [1, 1, 2])))
        self.assertIsNone(parting_row(Ladder(2, []), Ladder(2, [])))
        self.assertEqual(parting_row(Ladder(1, [1]), Ladder(1, [])), (1,))

    def test_against_a_search(self):
        rng = drawn(350)
        none = 0
        for height, levels, other_levels in pairs_of_levels(rng, 6, 150):
            row = parting_row(Ladder(height, levels), Ladder(height, other_levels))
            self.assertEqual(row, slow_parting_row(height, levels, other_levels))
            self.assertTrue(row is None or type(row) is tuple)
            self.assertEqual(row is None, marked_holds(other_levels, levels))
            none += row is None
        self.assertGreater(none, 20)

    def test_what_the_row_shows(self):
        rng = drawn(351)
        for height, levels, other_levels in pairs_of_levels(rng, 6, 120):
            ladder, other = Ladder(height, levels), Ladder(height, other_levels)
            row = parting_row(ladder, other)
            if row is not None:
                game = row_game(Ladder(height, row))
                self.assertEqual(told_nodes(game, ladder), list(range(game.size)))
                self.assertEqual(told_nodes(game, other), [])
                game = draw_game(rng, most_size=len(row), most_out=2, height=height)
                self.assertLessEqual(set(told_nodes(game, ladder)), set(told_nodes(game, other)))

    def test_limits(self):
        for height in (1, 2, 3):
            levels = long_levels(height)
            six, seven, most = Ladder(height, levels[:6]), Ladder(height, levels[:7]), Ladder(height, levels)
            self.assertIsNone(parting_row(six, most))
            self.assertIsNone(parting_row(six, six))
            self.assertIsNone(parting_row(six, seven))
            self.assertEqual(parting_row(six, Ladder(height, [])), (1,))
            for ladder in (seven, most):
                for other in (ladder, most, six, Ladder(height, [])):
                    self.assert_raises(TooLarge, parting_row, ladder, other)
        # The greatest number of rows that has to be looked at: all but the last one are held.
        self.assertEqual(parting_row(Ladder(3, [3] * 6), Ladder(3, [3] * 5)), (3,) * 6)

    def test_height_mismatch_ahead_of_too_large(self):
        self.assert_raises(HeightMismatch, parting_row, Ladder(2, []), Ladder(1, []))
        self.assert_raises(HeightMismatch, parting_row, Ladder(2, [1] * 7), Ladder(3, [1] * 7))


class AlikeTest(Case):
    def test_small(self):
        one, other = Ladder(2, [1, 1, 2]), Ladder(2, [1, 2])
        self.assertEqual(alike_up_to(one, other), 2)
        self.assertEqual(alike_up_to(other, one), 2)
        self.assertIsNone(alike_up_to(one, Ladder(2, (1, 1, 2))))
        self.assertIsNone(alike_up_to(Ladder(1, []), Ladder(1, [])))
        self.assertEqual(alike_up_to(Ladder(1, []), Ladder(1, [1, 1])), 1)
        self.assertEqual(alike_up_to(Ladder(2, [1, 1]), Ladder(2, [2, 1])), 1)

    def test_in_both_orders(self):
        rng = drawn(352)
        for height, levels, other_levels in pairs_of_levels(rng, 6, 150):
            ladder, other = Ladder(height, levels), Ladder(height, other_levels)
            rows = [slow_parting_row(height, levels, other_levels), slow_parting_row(height, other_levels, levels)]
            expected = min((len(row) for row in rows if row is not None), default=None)
            self.assertEqual(alike_up_to(ladder, other), expected)
            self.assertEqual(alike_up_to(other, ladder), expected)
            self.assertEqual(expected is None, levels == other_levels)
            if expected:
                game = draw_game(rng, most_size=expected, most_out=2, height=height)
                self.assertEqual(told_nodes(game, ladder), told_nodes(game, other))

    def test_limits(self):
        for height in (1, 2, 3):
            levels = long_levels(height)
            six, seven, most = Ladder(height, levels[:6]), Ladder(height, levels[:7]), Ladder(height, levels)
            self.assertIsNone(alike_up_to(six, six))
            self.assertEqual(alike_up_to(six, Ladder(height, [])), 1)
            for ladder in (seven, most):
                for other in (ladder, six, Ladder(height, [])):
                    self.assert_raises(TooLarge, alike_up_to, ladder, other)
                    self.assert_raises(TooLarge, alike_up_to, other, ladder)

    def test_height_mismatch_ahead_of_too_large(self):
        self.assert_raises(HeightMismatch, alike_up_to, Ladder(2, []), Ladder(1, []))
        self.assert_raises(HeightMismatch, alike_up_to, Ladder(2, [1] * 7), Ladder(3, []))
        self.assert_raises(HeightMismatch, alike_up_to, Ladder(2, []), Ladder(3, [1] * 24))
