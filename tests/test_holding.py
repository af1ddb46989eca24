"""Point [33]: the steps by which a ladder holds a row."""

from ladderreach.errors import BadLevel, TooLarge
from ladderreach.holding import ends, hold
from ladderreach.ladders import Ladder
from tests.helpers import Case, all_holding_steps, all_rows_up_to, draw_row, drawn, gap, long_levels


class HoldingTest(Case):
    def assert_like_all_choices(self, height, levels, row):
        """What the three calls return for the row is what all choices of steps show."""
        ladder = Ladder(height, levels)
        choices = all_holding_steps(levels, row)
        for passed in (tuple(row), list(row)):
            kept = list(row)
            last = ends(ladder, passed)
            steps = hold(ladder, passed)
            self.assertIs(type(last), list)
            self.assertEqual(last, sorted({choice[-1] for choice in choices}))
            self.assertEqual(steps, choices[0] if choices else None)
            self.assertIs(passed in ladder, len(choices) > 0)
            self.assertEqual(list(passed), kept)
            if choices:
                self.assertIs(type(steps), list)
                for choice in choices:
                    self.assertTrue(all(least <= step for least, step in zip(steps, choice)))
        return len(choices)

    def test_examples(self):
        self.assertEqual(hold(Ladder(2, [1, 2, 1]), (2,)), [0, 2])
        self.assertIsNone(hold(Ladder(2, [1, 2, 1]), (1, 1)))

    def test_small(self):
        ladder = Ladder(2, [1, 2, 1])
        self.assertEqual(ends(ladder, (2,)), [2, 3])
        self.assertEqual(ends(ladder, [1]), [1, 3])
        self.assertEqual(ends(ladder, (1, 1)), [])
        self.assertEqual(hold(ladder, [2, 1]), [0, 2, 3])
        self.assertEqual(hold(ladder, (1, 2, 1)), [0, 1, 2, 3])

    def test_the_first_steps_wait_for_the_last_ones(self):
        # From step 0 on, the level 1 can be held at once, but only behind the 2 it is followed by another 1.
        ladder = Ladder(2, [1, 2, 1, 1])
        self.assertEqual(hold(ladder, (1, 1)), [2, 3, 4])
        self.assertEqual(hold(ladder, (1,)), [0, 1])
        self.assertEqual(ends(ladder, (1, 1)), [4])

    def test_the_empty_row(self):
        for height in (1, 2, 3):
            for levels in ((), (1,), long_levels(height)):
                ladder = Ladder(height, levels)
                for row in ((), []):
                    self.assertEqual(ends(ladder, row), list(range(len(levels) + 1)))
                    self.assertEqual(hold(ladder, row), [0])
                    self.assertIs(row in ladder, True)

    def test_short_ladders(self):
        held = 0
        for height in (1, 2, 3):
            rows = all_rows_up_to(height, 3)
            for levels in all_rows_up_to(height, 4):
                for row in rows:
                    held += self.assert_like_all_choices(height, levels, row) > 0
        self.assertGreater(held, 500)

    def test_longer_ladders(self):
        rng = drawn(33)
        several = 0
        for _ in range(200):
            height = rng.randint(1, 3)
            levels = draw_row(rng, height, 10)
            several += self.assert_like_all_choices(height, levels, draw_row(rng, height, 5)) > 1
        self.assertGreater(several, 30)

    def test_every_ladder_holds_itself(self):
        for height in (1, 2, 3):
            levels = long_levels(height)
            ladder = Ladder(height, levels)
            self.assertEqual(hold(ladder, levels), list(range(25)))
            self.assertEqual(ends(ladder, ladder.levels), [24])

    def test_rows_of_chosen_steps(self):
        rng = drawn(330)
        for height in (1, 2, 3):
            levels = long_levels(height)
            ladder = Ladder(height, levels)
            for _ in range(30):
                chosen = sorted(rng.sample(range(25), rng.randint(1, 20)))
                row = [gap(levels, one, other) for one, other in zip(chosen, chosen[1:])]
                steps = hold(ladder, row)
                self.assertEqual([gap(levels, one, other) for one, other in zip(steps, steps[1:])], row)
                self.assertEqual(steps, sorted(set(steps)))
                self.assertTrue(all(least <= step for least, step in zip(steps, chosen)))
                self.assertIn(chosen[-1], ends(ladder, row))
                self.assertIs(row in ladder, True)

    def test_holding_is_handed_on(self):
        ladders = [Ladder(2, levels) for levels in all_rows_up_to(2, 3)]
        for one in ladders:
            for two in ladders:
                if two.levels in one:
                    self.assertTrue(one == two or one.levels not in two)
                    for three in ladders:
                        self.assertTrue(three.levels in one or three.levels not in two)

    def test_errors(self):
        ladder = Ladder(2, [1, 2])
        for call in (ends, hold, lambda each, row: row in each):
            self.assert_raises(TooLarge, call, ladder, [1] * 25)
            self.assert_raises(TooLarge, call, ladder, (0,) * 25)
            self.assert_raises(BadLevel, call, ladder, [1, 2, 3, 0], has={"index": 2})
            self.assert_raises(BadLevel, call, ladder, (0, 3), has={"index": 0})
            self.assert_raises(BadLevel, call, ladder, [1] * 23 + [3], has={"index": 23})
            self.assert_raises(BadLevel, call, ladder, (2, 2, 2, 2, -1), has={"index": 4})
        self.assertEqual(ends(ladder, [1] * 24), [])
        self.assertIsNone(hold(ladder, [2] * 24))
        self.assertEqual(hold(Ladder(1, [1] * 24), [1] * 24), list(range(25)))
        self.assert_raises(BadLevel, hold, Ladder(1, [1] * 24), [1, 2], has={"index": 1})

    def test_returned_lists_are_new(self):
        ladder = Ladder(2, [1, 2])
        ends(ladder, ()).clear()
        hold(ladder, (1,)).append(9)
        self.assertEqual(ends(ladder, ()), [0, 1, 2])
        self.assertEqual(hold(ladder, (1,)), [0, 1])
