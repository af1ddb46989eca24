"""Points [42] and [43]: readers."""

import itertools

from ladderreach.errors import BadSize, NoSuchRank, NoSuchStep
from ladderreach.ladders import Ladder
from ladderreach.reaching import reach
from ladderreach.readers import Reader, read, stays
from tests.helpers import (
    Case, all_rows_up_to, draw_row, draw_word, drawn, long_levels, slow_read, slow_step,
)


def draw_ladders(rng, turns):
    for turn in range(turns):
        height = turn % 3 + 1
        yield height, draw_row(rng, height, rng.choice((2, 5, 10, 24)))


class ReaderTest(Case):
    def test_start(self):
        ladder = Ladder(2, [1, 2, 1])
        self.assertEqual(Reader(ladder).step, 3)
        self.assertEqual(Reader(ladder, start=None).step, 3)
        self.assertEqual(Reader(ladder, start=0).step, 0)
        for step in range(4):
            reader = Reader(ladder, start=step)
            self.assertEqual(reader.step, step)
            self.assertIs(reader.off, False)
        with self.assertRaises(TypeError):
            Reader(ladder, 1)

    def test_attributes_are_set_when_it_is_made(self):
        self.assertIn("step", vars(Reader(Ladder(1, []))))
        self.assertIsInstance(vars(Reader)["off"], property)

    def test_no_such_step(self):
        for step in (-1, 4, 9):
            self.assert_raises(NoSuchStep, Reader, Ladder(2, [1, 2, 1]), start=step, has={"step": step})
        self.assert_raises(NoSuchStep, Reader, Ladder(2, [1] * 24), start=25, has={"step": 25})

    def test_small(self):
        reader = Reader(Ladder(2, [1, 2, 1]))
        self.assertEqual([reader(rank) for rank in (1, 2, 3, 4)], [2, 3, 1, 3])
        self.assertEqual([reader(rank) for rank in (3, 1)], [1, 0])
        self.assertIs(reader.off, False)
        self.assertIsNone(reader(1))
        self.assertIsNone(reader.step)
        self.assertIs(reader.off, True)
        self.assertIsNone(reader(4))
        self.assertIs(reader.off, True)
        self.assertIsNone(reader.reset(1))
        self.assertEqual(reader.step, 1)
        self.assertIs(reader.off, False)
        self.assertEqual(reader(4), 3)

    def test_steps_against_greatest(self):
        rng = drawn(42)
        off = 0
        for height, levels in draw_ladders(rng, 150):
            ladder = Ladder(height, levels)
            reader = Reader(ladder)
            step = len(levels)
            for rank in draw_word(rng, height, 40):
                if step is None and rng.random() < 0.5:
                    step = rng.randint(0, len(levels))
                    self.assertIsNone(reader.reset(step))
                expected = slow_step(levels, step, rank)
                self.assertEqual(expected, None if step is None else ladder.greatest(step, rank))
                self.assertEqual(reader(rank), expected)
                self.assertEqual(reader.step, expected)
                self.assertIs(reader.off, expected is None)
                off += expected is None
                step = expected
        self.assertGreater(off, 100)

    def test_no_such_rank(self):
        for height in (1, 2, 3):
            reader = Reader(Ladder(height, [1]))
            for rank in (-1, 2 * height + 1):
                self.assert_raises(NoSuchRank, reader, rank, has={"rank": rank})
                self.assertEqual(reader.step, 1)
            self.assertEqual(reader(2 * height), 1)
            self.assertEqual(reader(1), 0)
            self.assertIsNone(reader(1))
            for rank in (-1, 2 * height + 1):
                self.assert_raises(NoSuchRank, reader, rank, has={"rank": rank})
                self.assertIs(reader.off, True)

    def test_reset_errors(self):
        reader = Reader(Ladder(1, [1]))
        for step in (-1, 2):
            self.assert_raises(NoSuchStep, reader.reset, step, has={"step": step})
            self.assertEqual(reader.step, 1)
        reader(1)
        reader(1)
        for step in (-1, 2):
            self.assert_raises(NoSuchStep, reader.reset, step, has={"step": step})
            self.assertIs(reader.off, True)
        reader.reset(0)
        self.assertEqual(reader.step, 0)

    def test_readers_of_one_ladder_are_apart(self):
        ladder = Ladder(1, [1])
        one, other = Reader(ladder), Reader(ladder)
        one(1)
        self.assertEqual((one.step, other.step), (0, 1))


class ReadTest(Case):
    def test_example(self):
        self.assertEqual(read(Ladder(2, [1, 2, 1]), [1, 2, 3, 4]), [2, 3, 1, 3])

    def test_small(self):
        ladder = Ladder(1, [1])
        self.assertEqual(read(ladder, []), [])
        self.assertEqual(read(ladder, (1, 1, 2)), [0, None, None])
        self.assertEqual(read(ladder, (1, 2, 1), start=0), [None, None, None])
        self.assertEqual(read(ladder, [2, 1], start=0), [1, 0])
        self.assertEqual(read(ladder, [0, 1], start=None), [1, 0])

    def test_drawn_words(self):
        rng = drawn(420)
        for height, levels in draw_ladders(rng, 150):
            word = draw_word(rng, height, 30)
            kept = list(word)
            start = rng.choice([None, *range(len(levels) + 1)])
            found = read(Ladder(height, levels), word, start=start)
            self.assertIs(type(found), list)
            self.assertEqual(found, slow_read(levels, word, len(levels) if start is None else start))
            self.assertEqual(found, read(Ladder(height, levels), tuple(word), start=start))
            self.assertEqual(word, kept)

    def test_errors_in_order(self):
        ladder = Ladder(1, [1])
        for start in (-1, 2):
            self.assert_raises(NoSuchStep, read, ladder, [0], start=start, has={"step": start})
            self.assert_raises(NoSuchStep, read, ladder, [7], start=start, has={"step": start})
        for rank in (-1, 3):
            self.assert_raises(NoSuchRank, read, ladder, [0, rank, 9], has={"rank": rank})
            self.assert_raises(NoSuchRank, read, ladder, [1, 1, 1, 1, rank, 9], has={"rank": rank})
            self.assert_raises(NoSuchRank, read, ladder, [1, rank], start=0, has={"rank": rank})

    def test_returned_list_is_new(self):
        ladder = Ladder(1, [1])
        read(ladder, [1]).clear()
        self.assertEqual(read(ladder, [1]), [0])

    def test_limits(self):
        for height in (1, 2, 3):
            levels = long_levels(height)
            word = [(7 * k) % (2 * height + 1) for k in range(500)]
            self.assertEqual(read(Ladder(height, levels), word), slow_read(levels, word, 24))


class StaysTest(Case):
    def test_small(self):
        ladder = Ladder(1, [1])
        self.assertIs(stays(ladder, [], [2]), True)
        self.assertIs(stays(ladder, [], [1]), False)
        self.assertIs(stays(ladder, [], [1, 2]), True)
        self.assertIs(stays(ladder, [1], [0]), True)
        self.assertIs(stays(ladder, [1, 1], [2]), False)
        self.assertIs(stays(ladder, (1,), (2, 1)), True)
        self.assertIs(stays(ladder, (1,), (1, 2)), False)
        self.assertIs(stays(Ladder(1, []), [1], [2]), False)
        self.assertIs(stays(Ladder(1, [1] * 24), [1] * 24, [0, 0]), True)
        self.assertIs(stays(Ladder(1, [1] * 24), [1] * 25, [0, 0]), False)

    def test_against_reading_for_a_long_time(self):
        rng = drawn(43)
        seen = {True: 0, False: 0}
        for height, levels in draw_ladders(rng, 300):
            stem, cycle = draw_word(rng, height, 4), draw_word(rng, height, 3) + [rng.randint(0, 2 * height)]
            kept = list(stem), list(cycle)
            found = slow_read(levels, stem + cycle * 30, len(levels))
            answer = stays(Ladder(height, levels), stem, cycle)
            self.assertIs(answer, found[-1] is not None)
            self.assertIs(answer, stays(Ladder(height, levels), tuple(stem), tuple(cycle)))
            self.assertEqual((stem, cycle), kept)
            if answer:
                self.assertEqual(max(cycle) % 2, 0)
            seen[answer] += 1
        self.assertGreater(min(seen.values()), 50)

    def test_a_reader_that_goes_off_late(self):
        # Each round goes one step down, so that the reader is on for 24 rounds.
        for height in (1, 2, 3):
            self.assertIs(stays(Ladder(height, [height] * 24), [0], [1, 0]), False)
            self.assertIs(stays(Ladder(height, [height] * 24), [1] * 23, [1, 2 * height]), True)
            self.assertIs(stays(Ladder(height, [height] * 24), [1] * 24, [1, 2 * height]), False)

    def test_words_that_are_not_longer_than_the_reach(self):
        for height, most in ((1, 4), (2, 4), (3, 2)):
            for levels in all_rows_up_to(height, most):
                ladder = Ladder(height, levels)
                for length in range(1, min(reach(ladder), 3) + 1):
                    for word in itertools.product(range(2 * height + 1), repeat=length):
                        for cut in range(length):
                            if max(word[cut:]) % 2 == 0:
                                self.assertIs(stays(ladder, word[:cut], word[cut:]), True)

    def test_errors_in_order(self):
        ladder = Ladder(1, [1])
        self.assert_raises(BadSize, stays, ladder, [], [])
        self.assert_raises(BadSize, stays, ladder, [7], ())
        for rank in (-1, 3):
            self.assert_raises(NoSuchRank, stays, ladder, [0, rank], [9], has={"rank": rank})
            self.assert_raises(NoSuchRank, stays, ladder, [1, 1, 1, rank], [2], has={"rank": rank})
            self.assert_raises(NoSuchRank, stays, ladder, [1, 1, 1], [1, rank, 9], has={"rank": rank})
            self.assert_raises(NoSuchRank, stays, ladder, [], [2, rank], has={"rank": rank})
        self.assert_raises(NoSuchRank, stays, ladder, [5], [-5], has={"rank": 5})

    def test_limits(self):
        for height in (1, 2, 3):
            levels = long_levels(height)
            stem = [(3 * k) % (2 * height + 1) for k in range(300)]
            for cycle in ([0], [1, 2], [1, 2 * height], [2 * height - 1], list(range(2 * height + 1))):
                expected = slow_read(levels, stem + cycle * 30, 24)[-1] is not None
                self.assertIs(stays(Ladder(height, levels), stem, cycle), expected)
            expected = slow_read(levels, [1, 2 * height] * 30, 24)[-1] is not None
            self.assertIs(stays(Ladder(height, levels), [], [1, 2 * height]), expected)
