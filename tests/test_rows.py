"""Point [25]: all rows of a length."""

import itertools

from ladderreach.errors import BadHeight, BadSize, TooLarge
from ladderreach.rows import all_rows
from tests.helpers import Case


class AllRowsTest(Case):
    def test_short_ones(self):
        self.assertEqual(list(all_rows(2, 2)), [(1, 1), (1, 2), (2, 1), (2, 2)])
        self.assertEqual(list(all_rows(3, 1)), [(1,), (2,), (3,)])
        self.assertEqual(list(all_rows(1, 4)), [(1, 1, 1, 1)])

    def test_every_row_once_in_order(self):
        for height in (1, 2, 3):
            for count in range(7):
                rows = list(all_rows(height, count))
                self.assertEqual(rows, list(itertools.product(range(1, height + 1), repeat=count)))
                self.assertEqual(rows, sorted(set(rows)))
                self.assertEqual(len(rows), height ** count)
                self.assertEqual({type(row) for row in rows}, {tuple})

    def test_count_zero(self):
        for height in (1, 2, 3):
            self.assertEqual(list(all_rows(height, 0)), [()])

    def test_it_is_an_iteration(self):
        rows = all_rows(2, 3)
        self.assertEqual(next(rows), (1, 1, 1))
        self.assertEqual(next(rows), (1, 1, 2))
        self.assertEqual(len(list(rows)), 6)

    def test_errors(self):
        for height in (-1, 0, 4):
            for count in (-1, 0, 3, 7):
                self.assert_raises(BadHeight, next, all_rows(height, count))
        for height in (1, 2, 3):
            self.assert_raises(BadSize, next, all_rows(height, -1))
            self.assert_raises(BadSize, next, all_rows(height, -9))
            self.assert_raises(TooLarge, next, all_rows(height, 7))
            self.assert_raises(TooLarge, next, all_rows(height, 30))

    def test_errors_come_when_the_iteration_begins(self):
        wrong = [all_rows(0, 1), all_rows(2, -1), all_rows(2, 7)]
        for rows, error in zip(wrong, (BadHeight, BadSize, TooLarge)):
            self.assert_raises(error, list, rows)
