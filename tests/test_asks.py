"""Points [37] and [38]: asks."""

import itertools

from ladderreach.asks import Ask
from ladderreach.errors import BadHeight, BadLevel, HeightMismatch, TooLarge
from ladderreach.ladders import Ladder
from tests.helpers import Case, all_rows_up_to, draw_row, drawn, long_levels, marked_holds, row_order, slow_holds


def slow_least(rows):
    distinct = {tuple(row) for row in rows}
    least = [row for row in distinct if not any(row != other and slow_holds(row, other) for other in distinct)]
    return tuple(sorted(least, key=row_order))


def slow_meets(levels, rows):
    return any(marked_holds(levels, row) for row in rows)


def draw_rows(rng, height, most_rows, most_levels):
    """Some rows; only now and then the empty row, which leaves no other one."""
    rows = [draw_row(rng, height, most_levels) for _ in range(rng.randint(0, most_rows))]
    return rows if rng.random() < 0.1 else [row for row in rows if row]


def many_levels(rng, height):
    """Levels of many ladders of a height."""
    return all_rows_up_to(height, 4) + [draw_row(rng, height) for _ in range(25)] + [long_levels(height)]


class AskTest(Case):
    def test_attributes(self):
        ask = Ask(2, [(1, 2), (2,), (1, 1)])
        self.assertEqual((ask.height, ask.rows), (2, ((2,), (1, 1))))
        self.assertIs(type(ask.rows), tuple)
        self.assertEqual(Ask(1, [[1, 1]]).rows, ((1, 1),))

    def test_no_row(self):
        for height in (1, 2, 3):
            self.assertEqual(Ask(height, []).rows, ())
            self.assertEqual(Ask(height, ()).rows, ())

    def test_equal_rows(self):
        self.assertEqual(Ask(3, [(1, 3), [1, 3], (1, 3)]).rows, ((1, 3),))
        self.assertEqual(Ask(3, [(3, 1), (1, 3)] * 20).rows, ((1, 3), (3, 1)))

    def test_the_empty_row_among_others(self):
        for rows in ([(), (1,), (2, 2)], [(1,), (2, 2), []], [[2], ()], [(), ()]):
            self.assertEqual(Ask(2, rows).rows, ((),))

    def test_order_of_rows(self):
        self.assertEqual(Ask(3, [(2, 2, 2), (3,), (1, 1, 1), (1, 2), (1, 1)]).rows, ((3,), (1, 1), (1, 2), (2, 2, 2)))
        self.assertEqual(Ask(3, [(3,), (2,), (1,)]).rows, ((1,), (2,), (3,)))

    def test_drawn_rows(self):
        rng = drawn(37)
        several = 0
        for turn in range(300):
            height = turn % 3 + 1
            rows = draw_rows(rng, height, 12, rng.choice((3, 5, 8)))
            expected = slow_least(rows)
            for passed in (rows, tuple(rows), [list(row) for row in rows], tuple(list(row) for row in rows)):
                ask = Ask(height, passed)
                self.assertEqual(ask.rows, expected)
                self.assertEqual({type(row) for row in ask.rows} - {tuple}, set())
            self.assertEqual(Ask(height, expected).rows, expected)
            several += len(expected) > 2
        self.assertGreater(several, 30)

    def test_forty_rows(self):
        rows = [row for row in itertools.product((1, 2, 3), repeat=8)][1000:1040]
        self.assertEqual(Ask(3, rows[::-1]).rows, tuple(rows))

    def test_arguments_are_copied(self):
        row = [1, 2]
        rows = [row, [2, 2]]
        ask = Ask(2, rows)
        self.assertEqual(rows, [[1, 2], [2, 2]])
        row[0] = 2
        rows.clear()
        self.assertEqual(ask.rows, ((1, 2), (2, 2)))

    def test_bad_height(self):
        for height in (-1, 0, 4):
            self.assert_raises(BadHeight, Ask, height, [])
            self.assert_raises(BadHeight, Ask, height, [(9,)])
            self.assert_raises(BadHeight, Ask, height, [(1,) * 9])
            self.assert_raises(BadHeight, Ask.never, height)
            self.assert_raises(BadHeight, Ask.always, height)

    def test_errors_row_by_row(self):
        self.assert_raises(TooLarge, Ask, 2, [(1,) * 9])
        self.assert_raises(TooLarge, Ask, 2, [(0,) * 9])
        self.assert_raises(TooLarge, Ask, 2, [(1,), [1] * 9, (3,)])
        self.assert_raises(BadLevel, Ask, 2, [(1,), (2, 1, 3), [1] * 9], has={"index": 2})
        self.assert_raises(BadLevel, Ask, 2, [(), (0,), (1, 0)], has={"index": 0})
        self.assert_raises(BadLevel, Ask, 1, [[1] * 7 + [2]], has={"index": 7})
        self.assert_raises(BadLevel, Ask, 3, [(), (1, -1, 9)], has={"index": 1})
        self.assertEqual(Ask(1, [(1,) * 8]).rows, ((1,) * 8,))

    def test_never_and_always(self):
        rng = drawn(370)
        for height in (1, 2, 3):
            never, always = Ask.never(height), Ask.always(height)
            self.assertIs(type(never), Ask)
            self.assertIs(type(always), Ask)
            self.assertEqual((never.height, never.rows), (height, ()))
            self.assertEqual((always.height, always.rows), (height, ((),)))
            for levels in many_levels(rng, height):
                self.assertIs(Ladder(height, levels) in never, False)
                self.assertIs(Ladder(height, levels) in always, True)

    def test_equality(self):
        self.assertTrue(Ask(2, [(1,), (2,)]) == Ask(2, [[2], [1], [1, 2]]))
        self.assertFalse(Ask(2, [(1,), (2,)]) != Ask(2, [[2], [1], [1, 2]]))
        self.assertFalse(Ask(2, [(1,)]) == Ask(3, [(1,)]))
        self.assertTrue(Ask(2, [(1,)]) != Ask(2, [(2,)]))
        self.assertTrue(Ask(2, [(1,)]) != Ask(2, []))
        self.assertTrue(Ask.never(2) != Ask.always(2))
        self.assertTrue(Ask.never(2) == Ask.never(2))
        self.assertTrue(Ask.never(2) != Ask.never(1))

    def test_equal_asks_are_met_by_the_same_ladders(self):
        rng = drawn(371)
        for height in (1, 2, 3):
            ladders = all_rows_up_to(height, 3)
            asks = [Ask(height, draw_rows(rng, height, 3, 3)) for _ in range(30)]
            for one in asks:
                for other in asks:
                    same = all(slow_meets(row, one.rows) == slow_meets(row, other.rows) for row in ladders)
                    self.assertEqual(one == other, same)


class MeetingTest(Case):
    def drawn_asks(self, seed, turns, most_levels):
        rng = drawn(seed)
        for turn in range(turns):
            height = turn % 3 + 1
            rows, other_rows = (draw_rows(rng, height, 4, most_levels) for _ in range(2))
            yield height, rows, other_rows, many_levels(rng, height)

    def test_in(self):
        seen = {True: 0, False: 0}
        for height, rows, _, ladders in self.drawn_asks(38, 30, 4):
            ask = Ask(height, rows)
            for levels in ladders:
                met = slow_meets(levels, rows)
                self.assertIs(Ladder(height, levels) in ask, met)
                self.assertIs(Ladder(height, levels) not in ask, not met)
                seen[met] += 1
        self.assertGreater(min(seen.values()), 200)

    def test_or(self):
        for height, rows, other_rows, ladders in self.drawn_asks(380, 30, 4):
            one, other = Ask(height, rows), Ask(height, other_rows)
            joined = one | other
            self.assertIs(type(joined), Ask)
            self.assertEqual(joined.rows, slow_least(rows + other_rows))
            self.assertEqual(joined, other | one)
            self.assertEqual((one.rows, other.rows), (slow_least(rows), slow_least(other_rows)))
            for levels in ladders:
                self.assertIs(
                    Ladder(height, levels) in joined, slow_meets(levels, rows) or slow_meets(levels, other_rows))

    def test_or_of_many_rows(self):
        rows = list(itertools.product((1, 2, 3), repeat=8))
        one, other = Ask(3, rows[:40]), Ask(3, rows[40:80])
        self.assertEqual((one | other).rows, tuple(rows[:80]))

    def test_and(self):
        rng = drawn(381)
        some = 0
        for turn in range(150):
            height = turn % 3 + 1
            possible = all_rows_up_to(height, 1 if height == 3 else 2)
            rows, other_rows = (rng.sample(possible, rng.randint(0, 3)) for _ in range(2))
            ladders = many_levels(rng, height)
            one, other = Ask(height, rows), Ask(height, other_rows)
            both = one & other
            self.assertIs(type(both), Ask)
            self.assertEqual(both, other & one)
            self.assertEqual((one.rows, other.rows), (slow_least(rows), slow_least(other_rows)))
            self.assertEqual(both.rows, slow_least(both.rows))
            for levels in ladders:
                self.assertIs(
                    Ladder(height, levels) in both, slow_meets(levels, rows) and slow_meets(levels, other_rows))
            longest = max([len(row) for row in both.rows], default=0)
            some += longest > max([len(row) for row in one.rows + other.rows], default=0)
        self.assertGreater(some, 10)

    def test_and_against_longer_rows(self):
        # Rows up to 6 levels are looked at, which is one level more than any least row has.
        for one, other in itertools.product(((1, 1), (1, 2), (2, 1), (2, 2), (1,), ()), repeat=2):
            meeting = [row for row in all_rows_up_to(2, 6) if marked_holds(row, one) and marked_holds(row, other)]
            self.assertEqual((Ask(2, [one]) & Ask(2, [other])).rows, slow_least(meeting))

    def test_and_examples(self):
        self.assertEqual((Ask(2, [(1,)]) & Ask(2, [(2,)])).rows, ((1, 2), (2, 1)))
        self.assertEqual((Ask(3, [(1,)]) & Ask(3, [(2,)])).rows, ((1, 2), (2, 1), (1, 3, 2), (2, 3, 1)))
        self.assertEqual((Ask(2, [(1, 1)]) & Ask(2, [(2, 2)])).rows[-1], (2, 2, 1, 1))
        self.assertEqual((Ask(2, [(1,)]) & Ask.never(2)).rows, ())
        self.assertEqual((Ask(2, [(1,)]) & Ask.always(2)).rows, ((1,),))

    def test_within(self):
        none = 0
        for height, rows, other_rows, ladders in self.drawn_asks(382, 90, 3):
            one, other = Ask(height, rows), Ask(height, other_rows)
            expected = [row for row in slow_least(rows) if not slow_meets(row, other_rows)]
            row = one.within(other)
            self.assertEqual(row, expected[0] if expected else None)
            if row is None:
                none += 1
                for levels in ladders:
                    self.assertTrue(slow_meets(levels, other_rows) or not slow_meets(levels, rows))
            else:
                self.assertIs(type(row), tuple)
                self.assertTrue(Ladder(height, row) in one)
                self.assertFalse(Ladder(height, row) in other)
        self.assertGreater(none, 20)

    def test_within_of_never_and_always(self):
        ask = Ask(2, [(1, 2)])
        self.assertIsNone(Ask.never(2).within(ask))
        self.assertIsNone(Ask.never(2).within(Ask.never(2)))
        self.assertIsNone(ask.within(Ask.always(2)))
        self.assertEqual(ask.within(Ask.never(2)), (1, 2))
        self.assertEqual(Ask.always(2).within(ask), ())

    def test_height_mismatch(self):
        ask = Ask(2, [(1, 1, 1)])
        for height in (1, 3):
            self.assert_raises(HeightMismatch, lambda: Ladder(height, []) in ask)
            self.assert_raises(HeightMismatch, lambda: Ladder(height, [1] * 24) in Ask.never(2))
            for other in (Ask.never(height), Ask.always(height), Ask(height, [(1, 1, 1)])):
                self.assert_raises(HeightMismatch, lambda: ask | other)
                self.assert_raises(HeightMismatch, lambda: ask & other)
                self.assert_raises(HeightMismatch, lambda: other & ask)
                self.assert_raises(HeightMismatch, ask.within, other)
                self.assert_raises(HeightMismatch, Ask.never(2).within, other)

    def test_too_large(self):
        for height, most in ((1, 2), (2, 2), (3, 1)):
            long = Ask(height, [(1,) * (most + 1)])
            short = Ask(height, [(1,) * most])
            for other in (short, long, Ask.never(height), Ask.always(height)):
                self.assert_raises(TooLarge, lambda: long & other)
                self.assert_raises(TooLarge, lambda: other & long)
            self.assertEqual(short & short, short)
            self.assertEqual(short & Ask.never(height), Ask.never(height))
        # A longer row that is not a least one does not count.
        self.assertEqual(Ask(2, [(1,), (1, 1, 1)]) & Ask(2, [(1,)]), Ask(2, [(1,)]))
        mixed = Ask(2, [(1,), (2, 2, 2)])
        self.assert_raises(TooLarge, lambda: mixed & Ask(2, [(1,)]))
        self.assert_raises(TooLarge, lambda: Ask.never(2) & mixed)

    def test_long_ladders_and_rows(self):
        for height in (1, 2, 3):
            levels = long_levels(height)
            ask = Ask(height, [levels[k:k + 8] for k in range(17)])
            self.assertIs(Ladder(height, levels) in ask, True)
            self.assertIs(Ladder(height, []) in ask, False)
            self.assertIsNone(ask.within(ask))
            self.assertEqual(ask | ask, ask)
