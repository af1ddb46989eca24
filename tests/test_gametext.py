"""Point [11]: games as texts."""

from ladderreach.errors import (
    BadEdge, BadHeight, BadLine, BadOwners, DeadEnd, DuplicateEdge, TooLarge,
)
from ladderreach.games import Game
from ladderreach.gametext import format_game, parse_game
from tests.helpers import Case, all_edges, draw_game, drawn, full_game

LONG = "1" + "0" * 59


class FormatTest(Case):
    def test_written_form(self):
        game = Game(2, "AB", [(1, 3, 0), (0, 4, 1), (0, 0, 0)])
        self.assertEqual(format_game(game), "game 2 AB\n0 0 0\n0 4 1\n1 3 0")
        self.assertEqual(format_game(Game(1, "B", [(0, 0, 0)])), "game 1 B\n0 0 0")

    def test_full_game(self):
        for height in (1, 2, 3):
            lines = format_game(full_game(height)).split("\n")
            self.assertEqual(len(lines), 64)
            self.assertEqual(lines[0], f"game {height} ABBABAABB")
            self.assertEqual(lines[1:], [" ".join(map(str, edge)) for edge in full_game(height).edges])

    def test_there_and_back(self):
        rng = drawn(11)
        games = [draw_game(rng) for _ in range(100)] + [full_game(height) for height in (1, 2, 3)]
        for game in games:
            self.assertEqual(parse_game(format_game(game)), game)


class ParseTest(Case):
    def assert_bad(self, text, number):
        self.assert_raises(BadLine, parse_game, text, has={"number": number})

    def test_edges_in_any_order(self):
        game = parse_game("game 1 AB\n1 2 0\n0 0 1")
        self.assertIs(type(game), Game)
        self.assertEqual(game, Game(1, "AB", [(0, 0, 1), (1, 2, 0)]))

    def test_bad_first_line(self):
        for line in (
            "", " ", "game", "game ", "game 1", "game 1 ", "game  1 A", " game 1 A", "game 1 A ", "game 1  A",
            "game 1 A B", "game  A", "game A 1", "gam 1 A", "Game 1 A", "game: 1 A", "ladder 1 A", "game 01 A",
            "game +1 A", "game -1 A", "game 00 A", "game 1. A", "game 1_0 A", "game 0x1 A", "game one A", "1 A",
            "game 1 A 0", "game  1", "A 1 game", "0 0 0",
        ):
            self.assert_bad(line + "\n0 0 0", 1)
            self.assert_bad(line, 1)

    def test_bad_further_lines(self):
        for line in (
            "", " ", "0", "0 0", "0 0 0 0", "0 0 0 ", " 0 0 0", "0  0 0", "0 0  0", "00 0 0", "0 00 0", "0 0 00",
            "0 01 0", "01 0 0", "0 0 01", "+0 0 0", "0 +1 0", "0 0 -1", "-0 0 0", "a 0 0", "0 b 0", "0 0 c",
            "0 1.0 0", "0 1e0 0", "0 1_1 0", "0,0,0", "(0, 0, 0)", "0 0 ", "  ", "game 1 A", "0 0 0x0",
        ):
            self.assert_bad("game 1 A\n" + line, 2)
            self.assert_bad("game 1 A\n0 0 0\n" + line, 3)
            self.assert_bad("game 1 A\n" + line + "\n0 0 0", 2)
            self.assert_bad("game 1 A\n0 0 0\n0 1 0\n" + line + "\nx", 4)

    def test_empty_last_line(self):
        self.assert_bad("game 1 A\n0 0 0\n", 3)
        self.assert_bad("game 1 A\n", 2)
        self.assert_bad("\ngame 1 A\n0 0 0", 1)
        self.assert_bad("\n", 1)

    def test_number_of_the_first_bad_line(self):
        self.assert_bad("game 1 A\nx\n\n", 2)
        self.assert_bad("game\nx", 1)
        text = format_game(full_game(3))
        self.assert_bad(text + "\n", 65)
        self.assert_bad(text + " ", 64)
        self.assert_bad(text.replace("8 ", "8  ", 1), [line[:2] for line in text.split("\n")].index("8 ") + 1)

    def test_bad_line_ahead_of_the_errors_of_the_game(self):
        self.assert_bad("game 9 XYZ\n5 5 5\n0 0 0 0", 3)
        self.assert_bad("game 1 C\n", 2)
        self.assert_bad("game 4 A\n0 0 0\n0 0 0\n0 0", 4)
        self.assert_bad("\n".join(["game 1 A"] + ["0 0 0"] * 64 + [""]), 66)

    def test_errors_of_the_game(self):
        self.assert_raises(BadOwners, parse_game, "game 1 C\n0 0 0")
        self.assert_raises(BadOwners, parse_game, "game 4 a\n0 0 0")
        self.assert_raises(BadOwners, parse_game, "game 1 AAAAAAAAAA\n0 0 0")
        self.assert_raises(BadOwners, parse_game, "game 1 1")
        self.assert_raises(BadHeight, parse_game, "game 0 A\n0 0 0")
        self.assert_raises(BadHeight, parse_game, "game 4 A\n0 9 0")
        self.assert_raises(BadEdge, parse_game, "game 1 A\n0 2 0\n0 0 1", has={"index": 1})
        self.assert_raises(BadEdge, parse_game, "game 1 A\n0 3 0\n0 0 0", has={"index": 0})
        self.assert_raises(DuplicateEdge, parse_game, "game 1 AB\n1 2 0\n0 0 0\n1 2 0", has={"index": 2})
        self.assert_raises(DeadEnd, parse_game, "game 1 A", has={"node": 0})
        self.assert_raises(DeadEnd, parse_game, "game 1 ABA\n0 0 0\n2 0 1", has={"node": 1})

    def test_too_many_edges(self):
        lines = [" ".join(map(str, edge)) for edge in all_edges(1, 9)]
        head = "game 1 ABABABABA"
        self.assert_raises(TooLarge, parse_game, "\n".join([head] + lines[:64]))
        self.assert_raises(DeadEnd, parse_game, "\n".join([head] + lines[:63]), has={"node": 3})
        self.assert_raises(TooLarge, parse_game, "\n".join(["game 1 A"] + ["0 0 0"] * 64))

    def test_long_numbers(self):
        self.assert_raises(BadHeight, parse_game, f"game {LONG} A\n0 0 0")
        self.assert_raises(BadEdge, parse_game, f"game 1 A\n0 0 0\n{LONG} 0 0", has={"index": 1})
        self.assert_raises(BadEdge, parse_game, f"game 1 A\n0 {LONG} 0", has={"index": 0})
        self.assert_raises(BadEdge, parse_game, f"game 1 A\n0 0 {'9' * 60}", has={"index": 0})
        self.assert_bad(f"game 1 A\n0 0 0{LONG[1:]}", 2)

    def test_zero(self):
        self.assert_raises(BadHeight, parse_game, "game 0 A\n0 0 0")
        self.assertEqual(parse_game("game 1 A\n0 0 0").edges, ((0, 0, 0),))
