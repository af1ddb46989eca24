"""Point [49]: how many steps ladders need, and how many halving ladders have."""

from ladderreach.errors import BadHeight, BadSize
from ladderreach.ladders import Ladder
from ladderreach.sizes import floor_steps, halving_steps
from tests.helpers import Case, slow_halving


def slow_floor(count, height):
    """The words of the point."""
    if height == 1:
        return count
    if height == 2:
        return 0 if count == 0 else count + slow_floor((count - 1) // 2, 2) + slow_floor(count // 2, 2)
    return sum(slow_floor(count // part, 2) for part in range(1, count + 1))


class SizesTest(Case):
    def test_small(self):
        self.assertEqual([floor_steps(1, count) for count in (1, 2, 3, 60)], [1, 2, 3, 60])
        self.assertEqual([floor_steps(2, count) for count in (1, 2, 3, 4, 5, 6)], [1, 3, 5, 8, 11, 14])
        self.assertEqual([floor_steps(3, count) for count in (1, 2, 3, 4, 5)], [1, 4, 7, 13, 17])
        self.assertEqual([halving_steps(3, count) for count in (1, 2, 3, 4, 5)], [1, 4, 7, 13, 19])

    def test_floor_steps(self):
        for height in (1, 2, 3):
            for count in range(1, 61):
                self.assertEqual(floor_steps(height, count), slow_floor(count, height))

    def test_halving_steps(self):
        for height in (1, 2, 3):
            for count in range(1, 61):
                self.assertEqual(halving_steps(height, count), len(slow_halving(count, height)) + 1)

    def test_halving_ladders(self):
        for height, most in ((1, 25), (2, 9), (3, 5)):
            for count in range(1, most + 1):
                self.assertEqual(halving_steps(height, count), Ladder.halving(height, count).top + 1)
        # These are too long for a ladder.
        for height, count in ((1, 26), (2, 11), (3, 7), (1, 60), (2, 60), (3, 60)):
            self.assertGreater(halving_steps(height, count), 25)

    def test_both_numbers(self):
        for count in range(1, 61):
            for height in (1, 2):
                self.assertEqual(floor_steps(height, count), halving_steps(height, count))
            self.assertLessEqual(floor_steps(3, count), halving_steps(3, count))
        self.assertLess(floor_steps(3, 5), halving_steps(3, 5))

    def test_errors_in_order(self):
        for call in (floor_steps, halving_steps):
            for height in (-1, 0, 4, 7):
                for count in (-1, 0, 1, 60, 61):
                    self.assert_raises(BadHeight, call, height, count)
            for height in (1, 2, 3):
                for count in (-9, -1, 0, 61, 62, 500):
                    self.assert_raises(BadSize, call, height, count)
