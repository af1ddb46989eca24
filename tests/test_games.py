"""Points [6], [8] and [9]: games."""

from ladderreach.errors import (
    BadEdge, BadHeight, BadOwners, BadSize, DeadEnd, DuplicateEdge, NoSuchEdge, NoSuchNode, TooLarge,
)
from ladderreach.games import Game
from ladderreach.webs import Web
from tests.helpers import Case, all_edges, draw_game, drawn, full_edges, full_game, slow_winners


def small():
    return Game(1, "AB", [(1, 0, 1), (0, 2, 1), (0, 1, 0)])


class GameTest(Case):
    def test_attributes(self):
        game = small()
        self.assertEqual((game.height, game.size, game.owners), (1, 2, "AB"))
        self.assertEqual(game.edges, ((0, 1, 0), (0, 2, 1), (1, 0, 1)))
        self.assertIs(type(game.edges), tuple)
        self.assertIsInstance(game, Web)
        self.assertEqual((Game.MOST_NODES, Game.MOST_EDGES), (9, 63))

    def test_iteration_and_out(self):
        game = small()
        self.assertEqual(list(game), [(0, 1, 0), (0, 2, 1), (1, 0, 1)])
        self.assertEqual(game.out(0), ((0, 1, 0), (0, 2, 1)))
        self.assertEqual(game.out(1), ((1, 0, 1),))
        self.assert_raises(NoSuchNode, game.out, -1, has={"node": -1})
        self.assert_raises(NoSuchNode, game.out, 2, has={"node": 2})

    def test_list_and_tuple_are_copied(self):
        edges = [(1, 0, 1), (0, 2, 1)]
        game = Game(1, "AB", edges)
        self.assertEqual(edges, [(1, 0, 1), (0, 2, 1)])
        self.assertEqual(game, Game(1, "AB", tuple(edges)))
        edges.clear()
        self.assertEqual(game.edges, ((0, 2, 1), (1, 0, 1)))

    def test_bad_owners(self):
        for owners in ("", "C", "AC", "a", "A B", "A" * 10, "AB\n"):
            edges = [(node, 0, node) for node in range(min(len(owners), 9))]
            self.assert_raises(BadOwners, Game, 1, owners, edges)
        nine = [(node, 0, node) for node in range(9)]
        self.assertEqual(Game(1, "ABABABABB", nine).size, 9)

    def test_bad_owners_ahead_of_everything(self):
        self.assert_raises(BadOwners, Game, 0, "", [])
        self.assert_raises(BadOwners, Game, 4, "X", [(0, 0, 0)])
        self.assert_raises(BadOwners, Game, 1, "A" * 10, [(0, 0, 0)] * 64)
        self.assert_raises(BadOwners, Game, 1, "AX", [(5, 0, 0)])
        self.assert_raises(BadOwners, Game, 1, "AX", [(0, 0, 0)])

    def test_errors_of_a_web(self):
        self.assert_raises(BadHeight, Game, 0, "A", [])
        self.assert_raises(BadHeight, Game, 4, "A", [(0, 0, 0)] * 64)
        self.assert_raises(TooLarge, Game, 1, "A", [(5, 0, 0)] * 64)
        self.assert_raises(BadEdge, Game, 1, "AB", [(0, 0, 0), (0, 0, 2)], has={"index": 1})
        self.assert_raises(DuplicateEdge, Game, 1, "AB", [(0, 0, 0), (0, 0, 0)], has={"index": 1})
        self.assert_raises(BadEdge, Game, 1, "A", [(0, 3, 0)], has={"index": 0})

    def test_dead_end(self):
        self.assert_raises(DeadEnd, Game, 1, "A", [], has={"node": 0})
        self.assert_raises(DeadEnd, Game, 1, "ABAB", [(2, 0, 1), (0, 0, 0)], has={"node": 1})
        self.assert_raises(DeadEnd, Game, 1, "ABA", [(0, 0, 2), (1, 0, 2)], has={"node": 2})

    def test_most_edges(self):
        for height in (1, 2, 3):
            self.assertEqual(full_game(height).edges, tuple(sorted(full_edges(height))))
            self.assert_raises(TooLarge, Game, height, "A" * 9, all_edges(height, 9)[:64])

    def test_equality(self):
        game = small()
        self.assertTrue(game == Game(1, "AB", [(0, 1, 0), (1, 0, 1), (0, 2, 1)]))
        self.assertFalse(game != Game(1, "AB", [(0, 1, 0), (1, 0, 1), (0, 2, 1)]))
        self.assertFalse(game == Game(2, "AB", game.edges))
        self.assertFalse(game == Game(1, "BB", game.edges))
        self.assertFalse(game == Game(1, "AB", game.edges[1:]))
        self.assertTrue(game != Game(1, "AB", [(0, 1, 0), (1, 0, 1), (0, 2, 0)]))

    def test_part_is_a_web(self):
        part = small().part((0,))
        self.assertIs(type(part), Web)
        self.assertEqual((part.height, part.size, part.edges), (1, 1, ((0, 1, 0),)))
        game = Game(2, "ABAB", [(0, 0, 3), (3, 4, 0), (1, 1, 2), (2, 3, 3)])
        nodes = [3, 0]
        self.assertEqual(game.part(nodes).edges, ((0, 0, 1), (1, 4, 0)))
        self.assertEqual(nodes, [3, 0])
        self.assertEqual(game.part([2, 1]).edges, ((0, 1, 1),))
        self.assertEqual(game.part([1, 0]).edges, ())
        self.assert_raises(BadSize, game.part, [])
        self.assert_raises(NoSuchNode, game.part, [1, 9, 4], has={"node": 9})
        self.assertEqual(full_game(2).part(list(range(9))).edges, full_game(2).edges)


class ChangeTest(Case):
    def test_with_edge(self):
        game = small()
        new = game.with_edge((1, 2, 0))
        self.assertEqual(new, Game(1, "AB", [(0, 1, 0), (0, 2, 1), (1, 0, 1), (1, 2, 0)]))
        self.assertEqual(new.edges, ((0, 1, 0), (0, 2, 1), (1, 0, 1), (1, 2, 0)))
        self.assertEqual(game, small())

    def test_with_edge_errors(self):
        game = small()
        self.assert_raises(BadEdge, game.with_edge, (2, 0, 0), has={"index": 3})
        self.assert_raises(BadEdge, game.with_edge, (0, 3, 0), has={"index": 3})
        self.assert_raises(BadEdge, game.with_edge, (0, 0, -1), has={"index": 3})
        self.assert_raises(DuplicateEdge, game.with_edge, (0, 1, 0), has={"index": 3})
        self.assertEqual(game, small())

    def test_with_edge_on_63_edges(self):
        game = full_game(3)
        new = [edge for edge in all_edges(3, 9) if edge not in game.edges][0]
        self.assert_raises(TooLarge, game.with_edge, new)
        self.assert_raises(TooLarge, game.with_edge, game.edges[0])
        self.assert_raises(TooLarge, game.with_edge, (9, 0, 0))
        less = game.without_edge(game.edges[5])
        self.assertEqual(len(less.edges), 62)
        self.assertEqual(len(less.with_edge(new).edges), 63)
        self.assert_raises(BadEdge, less.with_edge, (9, 0, 0), has={"index": 62})

    def test_without_edge(self):
        game = small()
        self.assertEqual(game.without_edge((0, 1, 0)), Game(1, "AB", [(0, 2, 1), (1, 0, 1)]))
        self.assertEqual(game.without_edge((0, 2, 1)), Game(1, "AB", [(0, 1, 0), (1, 0, 1)]))
        self.assertEqual(game, small())

    def test_without_edge_errors(self):
        game = small()
        self.assert_raises(NoSuchEdge, game.without_edge, (1, 2, 0))
        self.assert_raises(NoSuchEdge, game.without_edge, (9, 0, 0))
        self.assert_raises(NoSuchEdge, game.without_edge, (0, 2, 0))
        self.assert_raises(DeadEnd, game.without_edge, (1, 0, 1), has={"node": 1})
        self.assertEqual(game, small())

    def test_with_owner(self):
        game = small()
        self.assertEqual(game.with_owner(0, "B"), Game(1, "BB", game.edges))
        self.assertEqual(game.with_owner(1, "A"), Game(1, "AA", game.edges))
        self.assertEqual(game.with_owner(1, "B"), game)
        self.assertEqual(full_game(1).with_owner(4, "A").owners, "ABBAAAABB")
        self.assertEqual(game, small())

    def test_with_owner_errors(self):
        game = small()
        for node in (-1, 2):
            self.assert_raises(NoSuchNode, game.with_owner, node, "A", has={"node": node})
            self.assert_raises(NoSuchNode, game.with_owner, node, "X", has={"node": node})
        for owner in ("", "C", "AB", "BA", "a"):
            self.assert_raises(BadOwners, game.with_owner, 0, owner)

    def test_new_objects(self):
        game = small()
        for new in (game.with_edge((1, 2, 0)), game.with_owner(0, "B"), game.mirrored(), game.raised(),
                    game.without_edge((0, 1, 0))):
            self.assertIs(type(new), Game)
            self.assertFalse(new == game)


class HigherTest(Case):
    def test_mirrored(self):
        game = small().mirrored()
        self.assertEqual(game, Game(2, "BA", [(0, 2, 0), (0, 3, 1), (1, 1, 1)]))
        self.assertEqual(game.mirrored(), Game(3, "AB", [(0, 3, 0), (0, 4, 1), (1, 2, 1)]))

    def test_raised(self):
        game = small().raised()
        self.assertEqual(game, Game(2, "AB", [(0, 3, 0), (0, 4, 1), (1, 2, 1)]))
        self.assertEqual(game.raised(), Game(3, "AB", [(0, 5, 0), (0, 6, 1), (1, 4, 1)]))

    def test_height_3(self):
        game = Game(3, "A", [(0, 0, 0)])
        self.assert_raises(BadHeight, game.mirrored)
        self.assert_raises(BadHeight, game.raised)
        self.assert_raises(BadHeight, full_game(3).raised)
        self.assert_raises(BadHeight, small().mirrored().raised().mirrored)

    def test_full_games(self):
        for height in (1, 2):
            edges = full_game(height).edges
            mirrored = full_game(height).mirrored()
            self.assertEqual(mirrored.owners, "BAABABBAA")
            self.assertEqual(mirrored.edges, tuple((one, rank + 1, other) for one, rank, other in edges))
            raised = full_game(height).raised()
            self.assertEqual((raised.height, raised.owners), (height + 1, "ABBABAABB"))
            self.assertEqual(raised.edges, tuple((one, rank + 2, other) for one, rank, other in edges))

    def test_winners(self):
        rng = drawn(9)
        for _ in range(60):
            game = draw_game(rng, most_size=4, most_out=3, height=rng.randint(1, 2))
            winners = slow_winners(game)
            self.assertEqual(slow_winners(game.raised()), winners)
            swapped = "".join("B" if winner == "A" else "A" for winner in winners)
            self.assertEqual(slow_winners(game.mirrored()), swapped)
