"""Points [57], [58] and [59]: desks and their deeds."""

from ladderreach import errors
from ladderreach.climbing import climb
from ladderreach.desks import Desk
from ladderreach.errors import (
    BadEdge, DeadEnd, DuplicateEdge, HeightMismatch, NoSuchEdge, NoSuchNode, NothingToRedo, NothingToUndo, TooLarge,
)
from ladderreach.games import Game
from ladderreach.ladders import Ladder
from tests.deskmodel import Model, draw_deed, draw_levels, slow_lifts
from tests.helpers import Case, draw_game, drawn, full_game, long_levels


def all_of(desk):
    """All that can be seen of a desk."""
    return (desk.game, desk.ladder, desk.placement, desk.log, desk.changes, desk.depth)


def deep(desk):
    """All that can be seen of a desk, also behind its deeds and those that can be done once more."""
    seen = [all_of(desk)]
    moves = []
    for call, back in ((desk.redo, desk.undo), (desk.undo, desk.redo)):
        count = 0
        while True:
            try:
                call()
            except (NothingToRedo, NothingToUndo):
                break
            count += 1
            moves.append((desk.game, desk.ladder, desk.placement, desk.depth))
        for _ in range(count):
            back()
    return seen, moves


def do(desk, word, value):
    """Do the deed of the model on the desk."""
    if word == "use":
        return desk.use(Ladder(desk.game.height, value))
    return getattr(desk, word)(*([] if value is None else [value]))


def chain_game():
    """Two nodes of B: rank 1 leads up, rank 2 leads back."""
    return Game(1, "BB", [(0, 1, 1), (1, 2, 0)])


class DeskTest(Case):
    def assert_like(self, desk, model):
        """The desk shows what the model shows."""
        self.assertEqual(desk.game, model.game())
        self.assertEqual(desk.ladder, model.ladder())
        self.assertEqual(desk.placement, model.placement())
        self.assertEqual(desk.log, model.log)
        self.assertEqual(desk.changes, model.changes)
        self.assertEqual(desk.depth, model.depth())

    def test_the_making_of_a_desk(self):
        desk = Desk(chain_game(), Ladder(1, [1]))
        self.assertEqual(desk.game, chain_game())
        self.assertEqual(desk.ladder, Ladder(1, [1]))
        self.assertEqual(desk.placement, [1, 0])
        self.assertEqual(desk.log, [(0, 1)])
        self.assertEqual(desk.changes, [])
        self.assertEqual(desk.depth, 0)
        self.assertIn("game", vars(desk))
        for name in ("ladder", "placement", "log", "changes", "depth"):
            self.assertIsInstance(vars(Desk)[name], property)
        rng = drawn(57)
        for turn in range(60):
            height = turn % 3 + 1
            game, levels = draw_game(rng, most_out=3, height=height), draw_levels(rng, height)
            desk = Desk(game, Ladder(height, levels))
            placement, log = slow_lifts(game, levels, [0] * game.size)
            self.assertEqual(all_of(desk), (game, Ladder(height, levels), placement, log, [], 0))

    def test_height_mismatch(self):
        for height in (1, 2, 3):
            for other in (1, 2, 3):
                if other != height:
                    game = Game(height, "A", [(0, 0, 0)])
                    self.assert_raises(HeightMismatch, Desk, game, Ladder(other, [1] * 24))
                    desk = Desk(game, Ladder(height, [1]))
                    self.assert_raises(HeightMismatch, desk.use, Ladder(other, []))
                    self.assertEqual(all_of(desk), (game, Ladder(height, [1]), [0], [], [], 0))

    def test_put(self):
        desk = Desk(chain_game(), Ladder(1, [1, 1]))
        self.assertIsNone(desk.put((1, 1, 0)))
        self.assertEqual(desk.game, chain_game().with_edge((1, 1, 0)))
        # Both ways are odd now, and node 1 goes up from where it stood.
        self.assertEqual(desk.placement, [None, None])
        self.assertEqual(desk.log, [(1, 2), (0, None), (1, None)])
        self.assertEqual(desk.changes, [(0, 1, None), (1, 0, None)])
        self.assertEqual(desk.depth, 1)

    def test_cut(self):
        desk = Desk(Game(1, "AB", [(0, 0, 0), (0, 1, 1), (1, 0, 1)]), Ladder(1, [1]))
        self.assertEqual((desk.placement, desk.log), ([0, 0], []))
        self.assertIsNone(desk.cut((0, 0, 0)))
        self.assertEqual(all_of(desk), (
            Game(1, "AB", [(0, 1, 1), (1, 0, 1)]), Ladder(1, [1]), [1, 0], [(0, 1)], [(0, 0, 1)], 1))

    def test_give(self):
        desk = Desk(Game(1, "AB", [(0, 0, 0), (0, 1, 1), (1, 0, 1)]), Ladder(1, [1]))
        self.assertIsNone(desk.give(0))
        self.assertEqual((desk.game.owners, desk.placement, desk.log, desk.changes), ("BB", [1, 0], [(0, 1)], [(0, 0, 1)]))
        self.assertIsNone(desk.give(0))
        # Back with A, the node begins on step 0.
        self.assertEqual((desk.game.owners, desk.placement, desk.log, desk.changes), ("AB", [0, 0], [], [(0, 1, 0)]))
        self.assertEqual(desk.depth, 2)

    def test_use(self):
        desk = Desk(chain_game(), Ladder(1, []))
        self.assertEqual((desk.placement, desk.log), ([None, None], [(0, None), (1, None)]))
        self.assertIsNone(desk.use(Ladder(1, [1])))
        self.assertEqual((desk.ladder, desk.placement, desk.log), (Ladder(1, [1]), [1, 0], [(0, 1)]))
        self.assertEqual(desk.changes, [(0, None, 1), (1, None, 0)])
        # An entry that is the same number on another ladder has not changed.
        self.assertIsNone(desk.use(Ladder(1, [1, 1, 1])))
        self.assertEqual((desk.placement, desk.log, desk.changes, desk.depth), ([1, 0], [(0, 1)], [], 2))

    def test_which_deeds_go_on(self):
        # Node 0 stands on step 1 all the time; from step 0 it has to be lifted again.
        edges = [(0, 1, 1), (1, 0, 1), (2, 0, 2), (2, 2, 2), (3, 0, 3), (3, 2, 3)]
        lifted = [(0, 1)]
        for owners, word, value, log in (
            ("BBBB", "put", (2, 0, 3), []), ("BBAB", "put", (2, 0, 3), lifted),
            ("BBAB", "cut", (2, 0, 2), []), ("BBBB", "cut", (2, 0, 2), lifted),
            ("BBAB", "give", 2, []), ("BBBB", "give", 2, lifted),
            ("BBBB", "use", (1, 1), lifted), ("AAAA", "use", (1,), lifted),
        ):
            desk = Desk(Game(1, owners, edges), Ladder(1, [1]))
            self.assertEqual(desk.log, lifted)
            do(desk, word, value)
            self.assertEqual((desk.log, desk.placement, desk.changes), (log, [1, 0, 0, 0], []))
            self.assertEqual(desk.depth, 1)
            desk.undo()
            self.assertEqual((desk.log, desk.depth), ([], 0))
            desk.redo()
            self.assertEqual((desk.log, desk.placement, desk.depth), ([], [1, 0, 0, 0], 1))

    def test_drawn_deeds(self):
        rng = drawn(58)
        seen = {}
        went_on = 0
        for turn in range(60):
            height = turn % 3 + 1
            game = draw_game(rng, most_size=(9, 5, 3)[turn % 2], most_out=3, height=height)
            levels = draw_levels(rng, height)
            desk, model = Desk(game, Ladder(height, levels)), Model(height, game.owners, game.edges, levels)
            self.assert_like(desk, model)
            for _ in range(30):
                word, value = draw_deed(rng, model)
                fault = model.do(word, value)
                if fault:
                    name, has = fault
                    self.assert_raises(getattr(errors, name), do, desk, word, value, has=has)
                    seen[name] = seen.get(name, 0) + 1
                else:
                    self.assertIsNone(do(desk, word, value))
                    seen[word] = seen.get(word, 0) + 1
                    self.assertEqual(desk.placement, climb(desk.game, desk.ladder))
                self.assert_like(desk, model)
            went_on += model.went_on
        names = {"put", "cut", "give", "use", "undo", "redo", "BadEdge", "DuplicateEdge", "NoSuchEdge", "DeadEnd",
                 "NoSuchNode", "NothingToUndo", "NothingToRedo"}
        self.assertEqual(set(seen), names)
        self.assertGreater(min(seen.values()), 5, seen)
        self.assertGreater(went_on, 100)

    def test_harm_and_help(self):
        rng = drawn(580)
        seen = 0
        for turn in range(60):
            height = turn % 3 + 1
            game = draw_game(rng, most_out=3, height=height)
            desk = Desk(game, Ladder(height, draw_levels(rng, height)))
            for _ in range(10):
                owner = rng.choice("AB")
                mine = [node for node in range(game.size) if desk.game.owners[node] == owner]
                if not mine:
                    continue
                node = rng.choice(mine)
                word = rng.choice(("put", "cut", "give"))
                harms = (owner == "B") == (word == "put")
                try:
                    if word == "put":
                        desk.put((node, rng.randint(0, 2 * height), rng.randrange(game.size)))
                    elif word == "cut":
                        desk.cut(rng.choice(desk.game.out(node)))
                    else:
                        desk.give(node)
                except (DuplicateEdge, DeadEnd):
                    continue
                for _, before, after in desk.changes:
                    up = after is None or (before is not None and before < after)
                    self.assertEqual(up, harms)
                    seen += 1
        self.assertGreater(seen, 100)

    def test_errors_change_nothing(self):
        desk = Desk(Game(1, "AB", [(0, 0, 0), (0, 1, 1), (1, 0, 1)]), Ladder(1, [1]))
        desk.cut((0, 0, 0))
        desk.give(0)
        desk.undo()
        before = deep(desk)
        desk = Desk(Game(1, "AB", [(0, 0, 0), (0, 1, 1), (1, 0, 1)]), Ladder(1, [1]))
        desk.cut((0, 0, 0))
        desk.give(0)
        desk.undo()
        shown = all_of(desk)
        for error, call, value, has in (
            (BadEdge, desk.put, (2, 0, 0), {"index": 2}), (BadEdge, desk.put, (0, 3, 0), {"index": 2}),
            (BadEdge, desk.put, (0, 0, -1), {"index": 2}), (DuplicateEdge, desk.put, (0, 1, 1), {"index": 2}),
            (NoSuchEdge, desk.cut, (0, 0, 0), {}), (NoSuchEdge, desk.cut, (5, 0, 0), {}),
            (DeadEnd, desk.cut, (0, 1, 1), {"node": 0}), (DeadEnd, desk.cut, (1, 0, 1), {"node": 1}),
            (NoSuchNode, desk.give, -1, {"node": -1}), (NoSuchNode, desk.give, 2, {"node": 2}),
            (HeightMismatch, desk.use, Ladder(2, [1]), {}),
        ):
            self.assert_raises(error, call, value, has=has)
            self.assertEqual(all_of(desk), shown)
        self.assertEqual(deep(desk), before)

    def test_too_large(self):
        game = full_game(2)
        desk = Desk(game, Ladder(2, long_levels(2)))
        shown = all_of(desk)
        self.assert_raises(TooLarge, desk.put, (0, 0, 0))
        self.assert_raises(TooLarge, desk.put, (99, 0, 0))
        self.assertEqual(all_of(desk), shown)
        desk.cut(game.edges[0])
        desk.put(game.edges[0])
        self.assertEqual((desk.game, desk.placement, desk.depth), (game, shown[2], 2))

    def test_undo_and_redo(self):
        desk = Desk(chain_game(), Ladder(1, [1]))
        self.assert_raises(NothingToUndo, desk.undo)
        self.assert_raises(NothingToRedo, desk.redo)
        self.assertEqual(all_of(desk), (chain_game(), Ladder(1, [1]), [1, 0], [(0, 1)], [], 0))
        desk.use(Ladder(1, []))
        desk.give(1)
        self.assert_raises(NothingToRedo, desk.redo)
        self.assertIsNone(desk.undo())
        self.assertEqual(all_of(desk), (chain_game(), Ladder(1, []), [None, None], [], [], 1))
        self.assertIsNone(desk.undo())
        self.assertEqual(
            all_of(desk), (chain_game(), Ladder(1, [1]), [1, 0], [], [(0, None, 1), (1, None, 0)], 0))
        self.assert_raises(NothingToUndo, desk.undo)
        self.assertEqual(desk.changes, [(0, None, 1), (1, None, 0)])
        self.assertIsNone(desk.redo())
        self.assertEqual(
            all_of(desk), (chain_game(), Ladder(1, []), [None, None], [], [(0, 1, None), (1, 0, None)], 1))
        self.assertIsNone(desk.redo())
        self.assertEqual((desk.game.owners, desk.ladder, desk.depth), ("BA", Ladder(1, []), 2))
        self.assert_raises(NothingToRedo, desk.redo)

    def test_a_new_deed_ends_redo(self):
        for word, value in (("put", (0, 0, 0)), ("cut", (1, 2, 0)), ("give", 0), ("use", (1,))):
            desk = Desk(chain_game().with_edge((1, 0, 1)), Ladder(1, [1]))
            desk.give(1)
            desk.give(0)
            desk.undo()
            desk.undo()
            do(desk, word, value)
            self.assert_raises(NothingToRedo, desk.redo)
            self.assertEqual(desk.depth, 1)
            desk.undo()
            self.assertEqual((desk.game, desk.depth), (chain_game().with_edge((1, 0, 1)), 0))
            desk.redo()
            self.assertEqual(desk.depth, 1)
            self.assert_raises(NothingToRedo, desk.redo)

    def test_long_rows_of_deeds(self):
        rng = drawn(59)
        game = Game(2, "BABAB", [(k, 0, (k + 1) % 5) for k in range(5)] + [(k, 3, k) for k in range(5)])
        desk = Desk(game, Ladder(2, [1, 2, 1]))
        stages = [(desk.game, desk.ladder, desk.placement)]
        for turn in range(400):
            if turn % 3 == 0:
                desk.use(Ladder(2, draw_levels(rng, 2)))
            else:
                desk.give(rng.randrange(5))
            stages.append((desk.game, desk.ladder, desk.placement))
            self.assertEqual(desk.depth, turn + 1)
        for turn in range(399, -1, -1):
            desk.undo()
            self.assertEqual((desk.game, desk.ladder, desk.placement, desk.depth), (*stages[turn], turn))
        self.assert_raises(NothingToUndo, desk.undo)
        for turn in range(1, 401):
            desk.redo()
            self.assertEqual((desk.game, desk.ladder, desk.placement, desk.depth), (*stages[turn], turn))
        self.assert_raises(NothingToRedo, desk.redo)

    def test_a_deed_that_changes_no_entry_counts(self):
        desk = Desk(chain_game(), Ladder(1, [1]))
        desk.use(Ladder(1, [1]))
        self.assertEqual((desk.changes, desk.depth), ([], 1))
        desk.put((0, 2, 0))
        self.assertEqual((desk.changes, desk.log, desk.depth), ([], [], 2))
        desk.undo()
        self.assertEqual((desk.changes, desk.log, desk.depth), ([], [], 1))

    def test_lists_are_new(self):
        desk = Desk(chain_game(), Ladder(1, []))
        desk.use(Ladder(1, [1]))
        shown = all_of(desk)
        for name in ("placement", "log", "changes"):
            self.assertIsNot(getattr(desk, name), getattr(desk, name))
            getattr(desk, name).append("more")
            getattr(desk, name)[0] = "other"
            getattr(desk, name).clear()
        self.assertEqual(all_of(desk), shown)
        desk.undo()
        desk.redo()
        self.assertEqual(desk.placement, [1, 0])

    def test_two_desks_are_apart(self):
        game, ladder = chain_game(), Ladder(1, [1])
        one, other = Desk(game, ladder), Desk(game, ladder)
        one.give(0)
        one.use(Ladder(1, [1, 1]))
        one.undo()
        self.assertEqual(all_of(other), (chain_game(), Ladder(1, [1]), [1, 0], [(0, 1)], [], 0))
        self.assert_raises(NothingToUndo, other.undo)
        self.assert_raises(NothingToRedo, other.redo)
        self.assertEqual((game, ladder), (chain_game(), Ladder(1, [1])))

    def test_limits(self):
        for height in (1, 2, 3):
            game, levels = full_game(height), long_levels(height)
            desk, model = Desk(game, Ladder(height, levels)), Model(height, game.owners, game.edges, levels)
            self.assert_like(desk, model)
            for word, value in (
                ("cut", game.edges[5]), ("give", 0), ("give", 8), ("put", game.edges[5]), ("use", levels[::-1]),
                ("cut", game.edges[62]), ("undo", None), ("redo", None),
            ):
                self.assertIsNone(model.do(word, value))
                self.assertIsNone(do(desk, word, value))
                self.assert_like(desk, model)
