"""Point [25]: ladders as texts."""

from ladderreach.errors import BadHeight, BadLevel, BadLine, TooLarge
from ladderreach.ladders import Ladder
from ladderreach.laddertext import format_ladder, parse_ladder
from tests.helpers import Case, all_rows_up_to, draw_row, drawn, long_levels


class FormatTest(Case):
    def test_written_form(self):
        self.assertEqual(format_ladder(Ladder(2, [1, 2, 1])), "ladder 2: 1 2 1")
        self.assertEqual(format_ladder(Ladder(3, (3, 1, 2))), "ladder 3: 3 1 2")
        self.assertEqual(format_ladder(Ladder(1, [1])), "ladder 1: 1")

    def test_without_levels(self):
        for height in (1, 2, 3):
            self.assertEqual(format_ladder(Ladder(height, [])), f"ladder {height}:")

    def test_most_levels(self):
        self.assertEqual(format_ladder(Ladder(1, [1] * 24)), "ladder 1:" + " 1" * 24)


class ParseTest(Case):
    def assert_bad(self, text):
        self.assert_raises(BadLine, parse_ladder, text, has={"number": 1})

    def test_there_and_back(self):
        rng = drawn(25)
        for height in (1, 2, 3):
            rows = all_rows_up_to(height, 3) + [draw_row(rng, height) for _ in range(20)] + [long_levels(height)]
            for row in rows:
                ladder = parse_ladder(format_ladder(Ladder(height, row)))
                self.assertIs(type(ladder), Ladder)
                self.assertEqual(ladder, Ladder(height, row))
                self.assertIs(type(ladder.levels), tuple)

    def test_form(self):
        self.assertEqual(parse_ladder("ladder 2: 1 2 1"), Ladder(2, [1, 2, 1]))
        self.assertEqual(parse_ladder("ladder 3:"), Ladder(3, []))

    def test_example(self):
        self.assert_bad("ladder 2: 1 02")

    def test_further_spaces(self):
        for text in (
            " ladder 2: 1 2", "ladder  2: 1 2", "ladder 2 : 1 2", "ladder 2:  1 2", "ladder 2: 1  2",
            "ladder 2: 1 2 ", "ladder 2: ", "ladder 2:  ", " ladder 2:", "ladder 2 :", "ladder 2: 1 2  ", " ",
        ):
            self.assert_bad(text)

    def test_missing_spaces(self):
        for text in ("ladder2: 1 2", "ladder 2:1 2", "ladder 2:1", "ladder2:", "ladder 2:12: 1"):
            self.assert_bad(text)

    def test_newlines(self):
        for text in (
            "ladder 2: 1 2\n", "\nladder 2: 1 2", "ladder 2:\n", "ladder 2:\n1", "ladder\n2: 1", "ladder 2: 1\n2",
            "\n", "ladder 2: 1 2\nladder 2: 1 2", "ladder 2\n: 1", "ladder 2: \n1",
        ):
            self.assert_bad(text)

    def test_colons(self):
        for text in (
            "ladder 2 1 2", "ladder 2", "ladder 2:: 1 2", "ladder 2:: ", "ladder 2::", "ladder :2: 1", "ladder: 2: 1",
            "ladder 2: 1: 2", "ladder 2: 1 2:", "ladder: 2 1", "ladder :", "ladder : 1", "ladder:", "ladder", ":",
            "ladder 2; 1", "ladder 2: : 1", "ladder 2: :",
        ):
            self.assert_bad(text)

    def test_numbers(self):
        for word in ("+1", "-1", "01", "00", "1a", "a", "1.0", "1_0", "0x1", "1,", "(1)", "--", "one"):
            self.assert_bad(f"ladder {word}:")
            self.assert_bad(f"ladder {word}: 1 2")
            self.assert_bad(f"ladder 2: {word}")
            self.assert_bad(f"ladder 2: {word} 1")
            self.assert_bad(f"ladder 2: 1 1 {word}")

    def test_other_words(self):
        for text in (
            "", "game 2: 1 2", "Ladder 2: 1 2", "LADDER 2: 1", "ladders 2: 1", "adder 2: 1", "2: 1 2", "ladder ladder 2:",
            "ladder 2: ladder", "ladder 2: 1 2 # end", "x ladder 2: 1",
        ):
            self.assert_bad(text)

    def test_form_ahead_of_the_ladder(self):
        self.assert_bad("ladder 7: 9 02")
        self.assert_bad("ladder 0: 1 ")
        self.assert_bad("ladder 2:" + " 1" * 25 + " x")

    def test_errors_of_the_ladder(self):
        for height in ("0", "4", "22", "9" * 60):
            self.assert_raises(BadHeight, parse_ladder, f"ladder {height}: 1")
            self.assert_raises(BadHeight, parse_ladder, f"ladder {height}:")
            self.assert_raises(BadHeight, parse_ladder, f"ladder {height}: 9" + " 1" * 24)
        self.assert_raises(TooLarge, parse_ladder, "ladder 2:" + " 1" * 25)
        self.assert_raises(TooLarge, parse_ladder, "ladder 2: 0" + " 1" * 24)
        self.assertEqual(parse_ladder("ladder 2:" + " 2" * 24).top, 24)
        self.assert_raises(BadLevel, parse_ladder, "ladder 2: 1 2 3 0", has={"index": 2})
        self.assert_raises(BadLevel, parse_ladder, "ladder 1: 0", has={"index": 0})
        self.assert_raises(BadLevel, parse_ladder, "ladder 3: 1 " + "8" * 60, has={"index": 1})
        self.assert_raises(BadLevel, parse_ladder, "ladder 3:" + " 3" * 23 + " 4", has={"index": 23})
