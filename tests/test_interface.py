"""The interface: where each name is defined, and the examples."""

import importlib
import inspect

from ladderreach.asking import asked
from ladderreach.asks import Ask
from ladderreach.climbing import climb
from ladderreach.cycles import components
from ladderreach.desks import Desk
from ladderreach.errors import BadEdge, BadLine
from ladderreach.games import Game
from ladderreach.holding import hold
from ladderreach.ladders import Ladder
from ladderreach.laddertext import parse_ladder
from ladderreach.leasts import least_ladder
from ladderreach.reaching import lacking, reach
from ladderreach.readers import read
from ladderreach.reports import table
from ladderreach.rowgames import row_game
from ladderreach.sizes import floor_steps, halving_steps
from ladderreach.stands import stand
from ladderreach.webs import Web
from ladderreach.words import parting_word
from tests.helpers import Case

CLASSES = {
    "webs": {"Web": ["__init__", "__iter__", "out", "part"]},
    "games": {"Game": [
        "__init__", "__eq__", "__iter__", "out", "part", "with_edge", "without_edge", "with_owner", "mirrored",
        "raised",
    ]},
    "ladders": {"Ladder": [
        "__init__", "__eq__", "__iter__", "gap", "high", "allows", "least", "greatest", "pieces", "flipped",
        "__add__", "__contains__", "halving", "plain",
    ]},
    "asks": {"Ask": ["__init__", "__eq__", "never", "always", "__contains__", "__or__", "__and__", "within"]},
    "readers": {"Reader": ["__init__", "__call__", "off", "reset"]},
    "watchers": {"Watcher": ["__init__", "move"]},
    "monitors": {"Monitor": ["__init__"]},
    "machines": {"Controller": ["__init__", "__call__", "reset"], "World": ["__init__"]},
    "desks": {"Desk": [
        "__init__", "ladder", "placement", "log", "changes", "depth", "put", "cut", "give", "use", "undo", "redo",
        "run",
    ]},
    "solvers": {name: ["__init__", "tells"] for name in ("Solver", "Taker", "Climber", "Holder", "Follower")},
}

FUNCTIONS = {
    "combine": ["side_by_side", "either", "all_of"],
    "gametext": ["format_game", "parse_game"],
    "cycles": ["odd_cycle", "components"],
    "stands": ["stand"],
    "forcing": ["force"],
    "plans": ["judge", "play"],
    "winners": ["solve"],
    "certificates": ["certify"],
    "laddertext": ["format_ladder", "parse_ladder"],
    "rows": ["all_rows"],
    "climbing": ["misfits", "lift", "lifts", "climb", "told_nodes"],
    "climbplans": ["plan_of", "allowed_edges"],
    "sides": ["both_sides"],
    "holding": ["ends", "hold"],
    "rowgames": ["row_game"],
    "reaching": ["lacking", "reach", "failing_game"],
    "partings": ["compare", "parting_row", "alike_up_to"],
    "asking": ["asked", "ask_game", "covers"],
    "readers": ["read", "stays"],
    "words": ["parting_word", "word_game"],
    "watchers": ["watch", "false_win"],
    "staying": ["staying", "watched_nodes"],
    "watchladders": ["ladder_of", "watcher_of"],
    "sizes": ["floor_steps", "halving_steps"],
    "leasts": ["least_ladder", "shortest_for"],
    "monitors": ["monitor_game"],
    "judging": ["judge_controller", "judge_world", "meet"],
    "synthesis": ["synthesize", "synthesize_on"],
    "reports": ["table", "nodes_where"],
}


class InterfaceTest(Case):
    def test_classes(self):
        for file, classes in CLASSES.items():
            module = importlib.import_module("ladderreach." + file)
            for name, methods in classes.items():
                found = getattr(module, name)
                self.assertTrue(inspect.isclass(found))
                self.assertEqual(found.__module__, "ladderreach." + file)
                for method in methods:
                    self.assertIn(method, vars(found), f"{name}.{method}")

    def test_functions(self):
        for file, names in FUNCTIONS.items():
            module = importlib.import_module("ladderreach." + file)
            for name in names:
                self.assertTrue(inspect.isfunction(getattr(module, name)))
                self.assertEqual(getattr(module, name).__module__, "ladderreach." + file)

    def test_class_methods(self):
        for name in ("halving", "plain"):
            self.assertIsInstance(vars(Ladder)[name], classmethod)

    def test_static_methods(self):
        for name in ("never", "always"):
            self.assertIsInstance(vars(Ask)[name], staticmethod)

    def test_a_game_is_a_web(self):
        self.assertEqual(Game.__bases__, (Web,))


class ExampleTest(Case):
    def test_games(self):
        self.assert_raises(BadEdge, Game, 1, "A", [(0, 1, 1)], has={"index": 0})

    def test_cycles(self):
        self.assertEqual(components(Web(1, 3, [(0, 0, 1), (1, 1, 0), (2, 0, 0)])), [[0, 1], [2]])

    def test_ladders(self):
        self.assertEqual(Ladder(2, [1, 2, 1]).gap(0, 3), 2)
        self.assertIs(Ladder(2, [1, 2, 1]).allows(0, 2, 1), True)
        self.assertIs(Ladder(2, [1, 2, 1]).allows(0, 2, 2), False)
        self.assertEqual(Ladder.halving(2, 3).levels, (2, 1, 1, 2))

    def test_laddertext(self):
        self.assert_raises(BadLine, parse_ladder, "ladder 2: 1 02", has={"number": 1})

    def test_climbing(self):
        game = Game(1, "BB", [(0, 1, 1), (1, 2, 0)])
        self.assertEqual(climb(game, Ladder(1, [1])), [1, 0])
        self.assertEqual(climb(game, Ladder(1, [])), [None, None])

    def test_holding(self):
        self.assertEqual(hold(Ladder(2, [1, 2, 1]), (2,)), [0, 2])
        self.assertIs(hold(Ladder(2, [1, 2, 1]), (1, 1)) is None, True)

    def test_reaching(self):
        self.assertEqual(reach(Ladder(2, [2, 1, 1, 2])), 3)
        self.assertEqual(lacking(Ladder(2, [2, 1, 1, 2]), 4), (1, 1, 1))

    def test_rowgames(self):
        self.assertEqual(row_game(Ladder(2, [1, 2])).edges, ((0, 2, 1), (1, 1, 0), (1, 4, 2), (2, 3, 1)))
        self.assertEqual(stand(row_game(Ladder(2, [1, 2]))), ((1, 2), [0, 1, 2]))

    def test_asking(self):
        self.assertEqual(asked(Game(1, "BB", [(0, 1, 1), (1, 2, 0)]), 0).rows, ((1,),))
        self.assertEqual((Ask(2, [(1,)]) & Ask(2, [(2,)])).rows, ((1, 2), (2, 1)))

    def test_readers(self):
        self.assertEqual(read(Ladder(2, [1, 2, 1]), [1, 2, 3, 4]), [2, 3, 1, 3])

    def test_words(self):
        self.assertEqual(parting_word(Ladder(1, [1]), Ladder(1, [])), [1])

    def test_sizes(self):
        self.assertEqual((floor_steps(2, 5), floor_steps(3, 5), halving_steps(3, 5)), (11, 17, 19))

    def test_leasts(self):
        self.assertEqual(least_ladder(2, 3).levels, (2, 1, 1, 2))

    def test_desks(self):
        desk = Desk(Game(1, "BB", [(0, 1, 1), (1, 2, 0)]), Ladder(1, [1]))
        self.assertEqual(desk.run(["show 0", "told", "levels"]), ["0 B 1", "told 0 1", "ladder 1: 1"])

    def test_reports(self):
        self.assertEqual(
            table(Game(1, "BB", [(0, 1, 1), (1, 2, 0)]), Ladder(1, [1])),
            ["node  o  w  step", "   0  B  A     1", "   1  B  A     0"])
