"""Points [61] and [62]: reports on a game and a ladder."""

import itertools

from ladderreach.errors import HeightMismatch, UnknownLimit
from ladderreach.games import Game
from ladderreach.ladders import Ladder
from ladderreach.reports import nodes_where, table
from tests.helpers import Case, drawn, full_game, games_and_levels, long_levels, slow_climb, slow_winners


def slow_table(owners, winners, placement):
    """The lines, put together sign by sign."""
    lines = ["node  o  w  step"]
    for node, entry in enumerate(placement):
        step = "off" if entry is None else str(entry)
        lines.append("   " + str(node) + "  " + owners[node] + "  " + winners[node] + "  " + " " * (4 - len(step)) + step)
    return lines


def staircase():
    """A game of A that stands on steps with two digits, with a node of B that goes off."""
    edges = [(k, 3, k + 1) for k in range(7)] + [(7, 4, 0), (8, 1, 8)]
    return Game(2, "A" * 7 + "AB", edges), Ladder(2, [1, 2] * 12)


class TableTest(Case):
    def test_small(self):
        game = Game(1, "ABB", [(0, 1, 1), (1, 0, 1), (2, 1, 2)])
        self.assertEqual(
            table(game, Ladder(1, [1])),
            ["node  o  w  step", "   0  A  A     1", "   1  B  A     0", "   2  B  B   off"])
        self.assertEqual(
            table(game, Ladder(1, [])),
            ["node  o  w  step", "   0  A  A   off", "   1  B  A     0", "   2  B  B   off"])

    def test_steps_of_two_digits(self):
        game, ladder = staircase()
        lines = table(game, ladder)
        self.assertEqual(lines[0], "node  o  w  step")
        self.assertEqual(lines[1], "   0  A  A    14")
        self.assertEqual(lines[3], "   2  A  A    10")
        self.assertEqual(lines[4], "   3  A  A     8")
        self.assertEqual(lines[8], "   7  A  A     0")
        self.assertEqual(lines[9], "   8  B  B   off")
        self.assertEqual({len(line) for line in lines}, {16})

    def test_against_slow_lines(self):
        rng = drawn(61)
        seen = ""
        for game, some_levels in games_and_levels(rng, 60, most_size=6):
            winners = slow_winners(game)
            for levels in ((), some_levels):
                lines = table(game, Ladder(game.height, levels))
                self.assertEqual(lines, slow_table(game.owners, winners, slow_climb(game, levels)))
                self.assertIs(type(lines), list)
                seen += "".join(line[9] for line in lines[1:] if line.endswith("off"))
        # Nodes go off that A wins, as well as nodes that B wins.
        self.assertEqual(set(seen), {"A", "B"})

    def test_limits(self):
        for height in (1, 2, 3):
            game, levels = full_game(height), long_levels(height)
            lines = table(game, Ladder(height, levels))
            self.assertEqual(len(lines), 10)
            steps = [line[-4:].strip() for line in lines[1:]]
            expected = ["off" if entry is None else str(entry) for entry in slow_climb(game, levels)]
            self.assertEqual(steps, expected)

    def test_the_list_is_new(self):
        game, ladder = staircase()
        table(game, ladder).clear()
        self.assertEqual(len(table(game, ladder)), 10)

    def test_height_mismatch(self):
        self.assert_raises(HeightMismatch, table, Game(1, "A", [(0, 0, 0)]), Ladder(2, []))
        self.assert_raises(HeightMismatch, table, full_game(3), Ladder(2, [1] * 24))


class NodesWhereTest(Case):
    def test_small(self):
        game = Game(1, "ABBA", [(0, 1, 1), (1, 0, 1), (2, 1, 2), (3, 1, 0)])
        ladder = Ladder(1, [1])
        self.assertEqual(nodes_where(game, ladder), [0, 1, 2, 3])
        self.assertEqual(nodes_where(game, ladder, owner="A"), [0, 3])
        self.assertEqual(nodes_where(game, ladder, owner="B"), [1, 2])
        self.assertEqual(nodes_where(game, ladder, winner="A"), [0, 1, 3])
        self.assertEqual(nodes_where(game, ladder, winner="B"), [2])
        self.assertEqual(nodes_where(game, ladder, told=True), [0, 1])
        self.assertEqual(nodes_where(game, ladder, told=False), [2, 3])
        self.assertEqual(nodes_where(game, ladder, least=0), [0, 1])
        self.assertEqual(nodes_where(game, ladder, least=1), [0])
        self.assertEqual(nodes_where(game, ladder, least=2), [])
        self.assertEqual(nodes_where(game, ladder, most=0), [1])
        self.assertEqual(nodes_where(game, ladder, most=1), [0, 1])
        self.assertEqual(nodes_where(game, ladder, winner="A", told=False), [3])
        self.assertEqual(nodes_where(game, ladder, least=1, most=1), [0])
        self.assertEqual(nodes_where(game, ladder, least=1, most=0), [])
        self.assertEqual(nodes_where(game, ladder, told=False, least=0), [])

    def test_numbers_out_of_range(self):
        game, ladder = staircase()
        told = list(range(8))
        self.assertEqual(nodes_where(game, ladder, least=-5), told)
        self.assertEqual(nodes_where(game, ladder, most=25), told)
        self.assertEqual(nodes_where(game, ladder, most=10 ** 30), told)
        self.assertEqual(nodes_where(game, ladder, least=25), [])
        self.assertEqual(nodes_where(game, ladder, least=10 ** 30), [])
        self.assertEqual(nodes_where(game, ladder, most=-1), [])
        self.assertEqual(nodes_where(game, ladder, least=10), [0, 1, 2])
        self.assertEqual(nodes_where(game, ladder, least=9, most=12), [1, 2])

    def test_all_limits_together(self):
        rng = drawn(62)
        found = {}
        for game, levels in games_and_levels(rng, 24, most_size=6, most_levels=6):
            ladder = Ladder(game.height, levels)
            winners, placement = slow_winners(game), slow_climb(game, levels)
            choices = [(None, "A", "B"), (None, "A", "B"), (None, True, False), (None, -1, 0, 1, 2), (None, 0, 1, 9)]
            for values in itertools.product(*choices):
                limits = dict(zip(("owner", "winner", "told", "least", "most"), values))
                limits = {name: value for name, value in limits.items() if value is not None}
                names = list(limits)
                rng.shuffle(names)
                nodes = nodes_where(game, ladder, **{name: limits[name] for name in names})
                self.assertEqual(nodes, self.slow_nodes(game, winners, placement, limits))
                found[len(limits)] = found.get(len(limits), 0) + len(nodes)
        self.assertGreater(min(found[count] for count in range(6)), 20, found)

    def slow_nodes(self, game, winners, placement, limits):
        nodes = []
        for node in range(game.size):
            step = placement[node]
            good = limits.get("owner", game.owners[node]) == game.owners[node]
            good = good and limits.get("winner", winners[node]) == winners[node]
            good = good and limits.get("told", step is not None) is (step is not None)
            if "least" in limits:
                good = good and step is not None and step >= limits["least"]
            if "most" in limits:
                good = good and step is not None and step <= limits["most"]
            if good:
                nodes.append(node)
        return nodes

    def test_unknown_limit(self):
        game, ladder = staircase()
        for name in ("owners", "step", "tell", "Owner", "top", "node", "limits", "off", "name", "steps"):
            self.assert_raises(UnknownLimit, nodes_where, game, ladder, **{name: 1}, has={"name": name})

    def test_the_first_unknown_name(self):
        game, ladder = staircase()
        call = nodes_where
        self.assert_raises(UnknownLimit, call, game, ladder, zone=1, area=2, has={"name": "zone"})
        self.assert_raises(UnknownLimit, call, game, ladder, area=1, zone=2, has={"name": "area"})
        self.assert_raises(UnknownLimit, call, game, ladder, owner="A", most=3, zone=1, area=2, has={"name": "zone"})
        self.assert_raises(UnknownLimit, call, game, ladder, zone=1, owner="A", area=2, told=True, has={"name": "zone"})
        # Also where no node meets the limits before it.
        self.assert_raises(UnknownLimit, call, game, ladder, least=99, zone=1, has={"name": "zone"})

    def test_height_mismatch_ahead_of_unknown_limit(self):
        game = Game(1, "A", [(0, 0, 0)])
        self.assert_raises(HeightMismatch, nodes_where, game, Ladder(2, []))
        self.assert_raises(HeightMismatch, nodes_where, game, Ladder(2, []), zone=1)
        self.assert_raises(HeightMismatch, nodes_where, full_game(2), Ladder(3, [1] * 24), owner="A", zone=1)

    def test_limits_of_the_size(self):
        for height in (1, 2, 3):
            game, levels = full_game(height), long_levels(height)
            ladder, placement = Ladder(height, levels), slow_climb(game, levels)
            self.assertEqual(nodes_where(game, ladder), list(range(9)))
            told = [node for node in range(9) if placement[node] is not None]
            self.assertEqual(nodes_where(game, ladder, told=True), told)
            self.assertEqual(nodes_where(game, ladder, least=0, most=24, winner="A"), told)

    def test_the_list_is_new(self):
        game, ladder = staircase()
        nodes_where(game, ladder).clear()
        self.assertEqual(nodes_where(game, ladder), list(range(9)))
