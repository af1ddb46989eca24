"""Points [20] to [24], [26] and [33]: ladders."""

import itertools

from ladderreach.errors import (
    BadHeight, BadLevel, BadSize, HeightMismatch, NoSuchLevel, NoSuchRank, NoSuchStep, TooLarge,
)
from ladderreach.ladders import Ladder
from tests.helpers import (
    Case, all_rows_up_to, allowed, draw_row, drawn, gap, long_levels, slow_halving, slow_holds,
)

MOST = {height: list(long_levels(height)) for height in (1, 2, 3)}


def many_ladders():
    """(height, levels): all short ones, some longer ones, and some with 24 levels."""
    rng = drawn(20)
    for height in (1, 2, 3):
        for levels in all_rows_up_to(height, 4):
            yield height, levels
        for _ in range(10):
            yield height, draw_row(rng, height)
        yield height, tuple(MOST[height])


class LadderTest(Case):
    def test_attributes(self):
        ladder = Ladder(2, [1, 2, 1])
        self.assertEqual((ladder.height, ladder.levels, ladder.top), (2, (1, 2, 1), 3))
        self.assertIs(type(ladder.levels), tuple)
        self.assertEqual(Ladder.MOST_LEVELS, 24)
        self.assertEqual((Ladder(3, []).levels, Ladder(3, ()).top), ((), 0))

    def test_most_levels(self):
        for height in (1, 2, 3):
            ladder = Ladder(height, MOST[height])
            self.assertEqual((ladder.levels, ladder.top), (tuple(MOST[height]), 24))
            self.assert_raises(TooLarge, Ladder, height, MOST[height] + [1])
            self.assert_raises(TooLarge, Ladder, height, tuple(MOST[height] + [1]))

    def test_iteration(self):
        ladder = Ladder(3, [3, 1, 2])
        self.assertEqual(list(ladder), [3, 1, 2])
        self.assertEqual([level for level in ladder], [3, 1, 2])
        self.assertEqual(list(Ladder(1, [])), [])
        self.assertEqual(list(Ladder(2, MOST[2])), MOST[2])

    def test_list_and_tuple_are_copied(self):
        levels = [1, 2]
        ladder = Ladder(2, levels)
        self.assertEqual(levels, [1, 2])
        levels.append(2)
        levels[0] = 2
        self.assertEqual((ladder.levels, ladder.top, ladder.gap(0, 1)), ((1, 2), 2, 1))
        self.assertEqual(ladder, Ladder(2, (1, 2)))

    def test_bad_height(self):
        for height in (-1, 0, 4):
            self.assert_raises(BadHeight, Ladder, height, [])
            self.assert_raises(BadHeight, Ladder, height, [9])
            self.assert_raises(BadHeight, Ladder, height, [1] * 25)

    def test_bad_level(self):
        self.assert_raises(BadLevel, Ladder, 1, [1, 1, 2, 0], has={"index": 2})
        self.assert_raises(BadLevel, Ladder, 2, (0, 3), has={"index": 0})
        self.assert_raises(BadLevel, Ladder, 3, [3, 2, 1, 4], has={"index": 3})
        self.assert_raises(BadLevel, Ladder, 3, [1, -1], has={"index": 1})
        self.assert_raises(BadLevel, Ladder, 3, MOST[3][:23] + [4], has={"index": 23})

    def test_too_large_ahead_of_bad_level(self):
        self.assert_raises(TooLarge, Ladder, 1, [0] * 25)
        self.assert_raises(BadLevel, Ladder, 1, [0] * 24, has={"index": 0})

    def test_equality(self):
        self.assertTrue(Ladder(2, [1, 2]) == Ladder(2, (1, 2)))
        self.assertFalse(Ladder(2, [1, 2]) != Ladder(2, (1, 2)))
        self.assertFalse(Ladder(2, [1, 2]) == Ladder(3, [1, 2]))
        self.assertFalse(Ladder(2, [1, 2]) == Ladder(2, [2, 1]))
        self.assertTrue(Ladder(1, []) != Ladder(2, []))
        self.assertTrue(Ladder(1, [1]) != Ladder(1, [1, 1]))
        self.assertTrue(Ladder(3, MOST[3]) == Ladder(3, MOST[3]))
        self.assertTrue(Ladder(3, MOST[3]) != Ladder(3, MOST[3][:23]))


class StepTest(Case):
    def test_examples(self):
        ladder = Ladder(2, [1, 2, 1])
        self.assertEqual(ladder.gap(0, 3), 2)
        self.assertIs(ladder.allows(0, 2, 1), True)
        self.assertIs(ladder.allows(0, 2, 2), False)

    def test_gap(self):
        for height, levels in many_ladders():
            ladder = Ladder(height, levels)
            for one, other in itertools.product(range(len(levels) + 1), repeat=2):
                self.assertEqual(ladder.gap(one, other), gap(levels, one, other))

    def test_gap_errors(self):
        ladder = Ladder(2, [1, 2, 1])
        for step in (-1, 4):
            self.assert_raises(NoSuchStep, ladder.gap, step, 0, has={"step": step})
            self.assert_raises(NoSuchStep, ladder.gap, 0, step, has={"step": step})
        self.assert_raises(NoSuchStep, ladder.gap, 5, -3, has={"step": 5})
        self.assert_raises(NoSuchStep, ladder.gap, -3, 5, has={"step": -3})
        self.assert_raises(NoSuchStep, ladder.gap, 4, 4, has={"step": 4})

    def test_high(self):
        for height, levels in many_ladders():
            ladder = Ladder(height, levels)
            for step in range(len(levels) + 1):
                for level in range(1, height + 1):
                    self.assertEqual(ladder.high(level, step), len([k for k in levels[:step] if k >= level]))
                self.assertEqual(ladder.high(height + 1, step), 0)

    def test_high_errors(self):
        for height in (1, 2, 3):
            ladder = Ladder(height, [1])
            for level in (-1, 0, height + 2):
                self.assert_raises(NoSuchLevel, ladder.high, level, 0, has={"level": level})
                self.assert_raises(NoSuchLevel, ladder.high, level, 2, has={"level": level})
            for step in (-1, 2):
                self.assert_raises(NoSuchStep, ladder.high, 1, step, has={"step": step})
                self.assert_raises(NoSuchStep, ladder.high, height + 1, step, has={"step": step})

    def test_allows(self):
        for height, levels in many_ladders():
            ladder = Ladder(height, levels)
            for source, target in itertools.product(range(len(levels) + 1), repeat=2):
                for rank in range(2 * height + 1):
                    self.assertIs(ladder.allows(source, rank, target), allowed(levels, source, rank, target))

    def test_allows_errors(self):
        ladder = Ladder(2, [1, 2, 1])
        for step in (-1, 4):
            self.assert_raises(NoSuchStep, ladder.allows, step, 0, 0, has={"step": step})
            self.assert_raises(NoSuchStep, ladder.allows, 0, 0, step, has={"step": step})
            self.assert_raises(NoSuchStep, ladder.allows, step, 9, 7, has={"step": step})
            self.assert_raises(NoSuchStep, ladder.allows, step, 0, 7, has={"step": step})
        for rank in (-1, 5):
            self.assert_raises(NoSuchRank, ladder.allows, 0, rank, 0, has={"rank": rank})
            self.assert_raises(NoSuchRank, ladder.allows, 0, rank, 7, has={"rank": rank})
        for height in (1, 2, 3):
            self.assert_raises(NoSuchRank, Ladder(height, []).allows, 0, 2 * height + 1, 0)
            self.assertIs(Ladder(height, []).allows(0, 2 * height, 0), True)

    def test_least(self):
        for height, levels in many_ladders():
            ladder = Ladder(height, levels)
            for target in range(len(levels) + 1):
                for rank in range(2 * height + 1):
                    steps = [step for step in range(len(levels) + 1) if allowed(levels, step, rank, target)]
                    self.assertEqual(ladder.least(rank, target), min(steps, default=None))

    def test_least_errors(self):
        ladder = Ladder(1, [1, 1])
        for rank in (-1, 3):
            self.assert_raises(NoSuchRank, ladder.least, rank, 0, has={"rank": rank})
            self.assert_raises(NoSuchRank, ladder.least, rank, 3, has={"rank": rank})
        for step in (-1, 3):
            self.assert_raises(NoSuchStep, ladder.least, 0, step, has={"step": step})

    def test_greatest(self):
        for height, levels in many_ladders():
            ladder = Ladder(height, levels)
            for source in range(len(levels) + 1):
                for rank in range(2 * height + 1):
                    steps = [step for step in range(len(levels) + 1) if allowed(levels, source, rank, step)]
                    self.assertEqual(ladder.greatest(source, rank), max(steps, default=None))

    def test_greatest_errors(self):
        ladder = Ladder(1, [1, 1])
        for step in (-1, 3):
            self.assert_raises(NoSuchStep, ladder.greatest, step, 0, has={"step": step})
            self.assert_raises(NoSuchStep, ladder.greatest, step, 3, has={"step": step})
        for rank in (-1, 3):
            self.assert_raises(NoSuchRank, ladder.greatest, 0, rank, has={"rank": rank})

    def test_what_follows(self):
        for height, levels in many_ladders():
            if len(levels) > 3:
                continue
            ladder = Ladder(height, levels)
            steps, ranks = range(len(levels) + 1), range(2 * height + 1)
            for one, rank, two in itertools.product(steps, ranks, steps):
                if rank % 2 == 0:
                    right = ladder.high(rank // 2 + 1, one) >= ladder.high(rank // 2 + 1, two)
                else:
                    right = ladder.high(rank // 2 + 1, one) > ladder.high(rank // 2 + 1, two)
                self.assertEqual(ladder.allows(one, rank, two), right)
                for more, three in itertools.product(ranks, steps):
                    if right and ladder.allows(two, more, three):
                        self.assertTrue(ladder.allows(one, max(rank, more), three))


class RowTest(Case):
    def test_pieces(self):
        self.assertEqual(Ladder(2, []).pieces(), [()])
        self.assertEqual(Ladder(2, [2]).pieces(), [(), ()])
        self.assertEqual(Ladder(2, [1, 1]).pieces(), [(1, 1)])
        self.assertEqual(Ladder(2, [1, 2, 2, 1, 1]).pieces(), [(1,), (), (1, 1)])
        self.assertEqual(Ladder(3, [3, 2, 1, 3]).pieces(), [(), (2, 1), ()])
        self.assertEqual(Ladder(1, [1, 1]).pieces(), [(), (), ()])
        self.assertEqual(Ladder(1, [1] * 24).pieces(), [()] * 25)

    def test_pieces_of_many_ladders(self):
        for height, levels in many_ladders():
            pieces = Ladder(height, levels).pieces()
            self.assertIs(type(pieces), list)
            self.assertEqual(len(pieces), levels.count(height) + 1)
            joined = pieces[0]
            for piece in pieces[1:]:
                joined = joined + (height,) + piece
            self.assertEqual(joined, levels)
            self.assertFalse(any(height in piece for piece in pieces))

    def test_pieces_are_a_new_list(self):
        ladder = Ladder(2, [1, 2])
        ladder.pieces().clear()
        self.assertEqual(ladder.pieces(), [(1,), ()])

    def test_flipped(self):
        for height, levels in many_ladders():
            ladder = Ladder(height, levels)
            flipped = ladder.flipped()
            self.assertIs(type(flipped), Ladder)
            self.assertEqual(flipped, Ladder(height, levels[::-1]))
            self.assertEqual(ladder.levels, levels)

    def test_sum(self):
        one, other = Ladder(2, [1, 2]), Ladder(2, [1])
        self.assertEqual(one + other, Ladder(2, [1, 2, 2, 1]))
        self.assertEqual(other + one, Ladder(2, [1, 2, 1, 2]))
        self.assertEqual(one + one, Ladder(2, [1, 2, 2, 1, 2]))
        self.assertIs(type(one + other), Ladder)
        self.assertEqual((one.levels, other.levels), ((1, 2), (1,)))
        for height in (1, 2, 3):
            self.assertEqual(Ladder(height, []) + Ladder(height, []), Ladder(height, [height]))

    def test_sum_errors(self):
        many = Ladder(2, [1] * 12)
        self.assertEqual((many + Ladder(2, [2] * 11)).levels, (1,) * 12 + (2,) * 12)
        self.assertEqual((Ladder(2, [1] * 23) + Ladder(2, [])).top, 24)
        self.assert_raises(TooLarge, lambda: many + many)
        self.assert_raises(TooLarge, lambda: Ladder(2, [1] * 24) + Ladder(2, []))
        self.assert_raises(HeightMismatch, lambda: Ladder(2, []) + Ladder(3, []))
        self.assert_raises(HeightMismatch, lambda: Ladder(2, [1] * 24) + Ladder(1, [1] * 24))


def slow_plain(count, level):
    if level == 0:
        return []
    row = slow_plain(count, level - 1)
    for _ in range(count - 1):
        row = row + [level] + slow_plain(count, level - 1)
    return row


class ShapeTest(Case):
    def test_examples(self):
        self.assertEqual(Ladder.halving(2, 3).levels, (2, 1, 1, 2))
        self.assertEqual(Ladder.halving(2, 2).levels, (1, 2))
        self.assertEqual(Ladder.plain(2, 2).levels, (1, 2, 1))
        self.assertEqual(Ladder.plain(3, 2).levels, (1, 2, 1, 3, 1, 2, 1))

    def test_against_the_definition(self):
        for height in (1, 2, 3):
            for count in range(1, 26):
                for call, slow in ((Ladder.halving, slow_halving), (Ladder.plain, slow_plain)):
                    row = slow(count, height)
                    if len(row) > 24:
                        self.assert_raises(TooLarge, call, height, count)
                    else:
                        ladder = call(height, count)
                        self.assertIs(type(ladder), Ladder)
                        self.assertEqual((ladder.height, list(ladder.levels)), (height, row))

    def test_limits(self):
        for call in (Ladder.halving, Ladder.plain):
            self.assertEqual(call(1, 25).levels, (1,) * 24)
            for height in (1, 2, 3):
                self.assertEqual(call(height, 1).levels, ())
        self.assertEqual(Ladder.plain(2, 5).top, 24)
        self.assert_raises(TooLarge, Ladder.plain, 2, 6)

    def test_errors(self):
        for call in (Ladder.halving, Ladder.plain):
            for height in (-1, 0, 4):
                self.assert_raises(BadHeight, call, height, 3)
                self.assert_raises(BadHeight, call, height, 0)
                self.assert_raises(BadHeight, call, height, 25)
            for height in (1, 2, 3):
                for count in (-1, 0, 26):
                    self.assert_raises(BadSize, call, height, count)
            self.assert_raises(TooLarge, call, 3, 25)
            self.assert_raises(TooLarge, call, 2, 25)

    def test_both_hold_all_rows_with_fewer_levels_than_the_count(self):
        for height, count in ((1, 6), (2, 4), (3, 2)):
            for ladder in (Ladder.halving(height, count), Ladder.plain(height, count)):
                for row in all_rows_up_to(height, count - 1):
                    self.assertTrue(row in ladder)


class HoldsTest(Case):
    def test_short_rows(self):
        ladder = Ladder(2, [1, 2, 1])
        self.assertIs((2,) in ladder, True)
        self.assertIs((1, 1) in ladder, False)
        self.assertIs([1, 2, 1] in ladder, True)
        self.assertIs([2, 2] in ladder, False)
        self.assertIs((2, 1) in ladder, True)
        self.assertIs((1, 1) not in ladder, True)

    def test_every_ladder_holds_the_empty_row_and_itself(self):
        for height, levels in many_ladders():
            ladder = Ladder(height, levels)
            self.assertIs(() in ladder, True)
            self.assertIs([] in ladder, True)
            self.assertIs(levels in ladder, True)
            self.assertIs(list(levels) in ladder, True)
            if len(levels) < 24:
                self.assertIs(levels + (1,) in ladder, False)

    def test_against_all_choices(self):
        for height in (1, 2, 3):
            rows = all_rows_up_to(height, 3)
            for levels in all_rows_up_to(height, 4):
                ladder = Ladder(height, levels)
                for row in rows:
                    self.assertIs(row in ladder, slow_holds(levels, row))

    def test_longer_ladders_against_all_choices(self):
        rng = drawn(33)
        for _ in range(150):
            height = rng.randint(2, 3)
            levels = tuple(rng.randint(1, height) for _ in range(rng.randint(5, 9)))
            row = tuple(rng.randint(1, height) for _ in range(rng.randint(2, 6)))
            self.assertIs(row in Ladder(height, levels), slow_holds(levels, row))

    def test_rows_of_chosen_steps(self):
        rng = drawn(34)
        for height in (1, 2, 3):
            levels = tuple(MOST[height])
            for _ in range(50):
                steps = sorted(rng.sample(range(25), rng.randint(1, 20)))
                row = [gap(levels, one, other) for one, other in zip(steps, steps[1:])]
                self.assertIs(row in Ladder(height, levels), True)
        self.assertIs([1] * 24 in Ladder(1, MOST[1]), True)
        self.assertIs([2] * 24 in Ladder(2, MOST[2]), False)

    def test_errors(self):
        ladder = Ladder(2, [1, 2])
        self.assertIs([1] * 24 in ladder, False)
        self.assert_raises(TooLarge, lambda: [1] * 25 in ladder)
        self.assert_raises(TooLarge, lambda: (7,) * 25 in ladder)
        self.assert_raises(BadLevel, lambda: [1, 2, 3, 0] in ladder, has={"index": 2})
        self.assert_raises(BadLevel, lambda: (0,) in ladder, has={"index": 0})
        self.assert_raises(BadLevel, lambda: [2, 2, 2, 2, -1] in ladder, has={"index": 4})
        self.assert_raises(BadLevel, lambda: [1] * 23 + [3] in ladder, has={"index": 23})

    def test_the_row_is_kept(self):
        row = [1, 2]
        self.assertIs(row in Ladder(2, [1, 2]), True)
        self.assertEqual(row, [1, 2])
