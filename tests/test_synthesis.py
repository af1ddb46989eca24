"""Point [55]: controllers and worlds that are made for a monitor."""

from ladderreach.climbing import told_nodes
from ladderreach.errors import HeightMismatch
from ladderreach.judging import judge_controller, judge_world, meet
from ladderreach.ladders import Ladder
from ladderreach.machines import Controller, World
from ladderreach.monitors import Monitor, monitor_game
from ladderreach.synthesis import synthesize, synthesize_on
from ladderreach.winners import solve
from tests.drawnmachines import controller_fails, draw_controller_moves, draw_monitors, draw_world_moves, world_fails
from tests.helpers import Case, all_rows_up_to, draw_row, drawn, long_levels, slow_told, slow_winners


class SynthesizeTest(Case):
    def test_small(self):
        machine = synthesize(Monitor(1, [[[(1, 0), (2, 0)]]]))
        self.assertIs(type(machine), Controller)
        self.assertEqual(machine(0), 1)
        machine = synthesize(Monitor(1, [[[(2, 0)], [(1, 0)]]]))
        self.assertIs(type(machine), World)
        self.assertEqual({letter for letter, _ in machine.moves}, {1})
        self.assertIs(type(synthesize(Monitor(3, [[[(5, 0)]]]))), World)
        self.assertIs(type(synthesize(Monitor(3, [[[(6, 0)]]]))), Controller)

    def test_many_monitors(self):
        rng = drawn(55)
        seen = {Controller: 0, World: 0}
        for height, moves in draw_monitors(rng, 10):
            monitor = Monitor(height, moves)
            machine = synthesize(monitor)
            winner = solve(monitor_game(monitor))[0][0]
            self.assertIs(type(machine), Controller if winner == "A" else World)
            seen[type(machine)] += 1
            self.assertLessEqual(len(machine.moves), 4)
            if winner == "A":
                self.assertEqual(machine.memory, 0)
                self.assertIsNone(judge_controller(monitor, machine))
                self.assertFalse(controller_fails(moves, machine.moves))
            else:
                self.assertIsNone(judge_world(monitor, machine))
                self.assertFalse(world_fails(moves, machine.moves))
        self.assertGreater(min(seen.values()), 100)

    def test_the_kind_by_a_slow_answer(self):
        rng = drawn(550)
        for height, moves in draw_monitors(rng, 2):
            game = monitor_game(Monitor(height, moves))
            expected = Controller if slow_winners(game)[0] == "A" else World
            self.assertIs(type(synthesize(Monitor(height, moves))), expected)

    def test_it_wins_against_any_other_machine(self):
        rng = drawn(551)
        for height, moves in draw_monitors(rng, 2):
            monitor = Monitor(height, moves)
            machine = synthesize(monitor)
            letters, answers = len(moves[0]), len(moves[0][0])
            for _ in range(5):
                if type(machine) is Controller:
                    other = World(draw_world_moves(rng, letters, answers))
                    self.assertEqual(meet(monitor, machine, other)[0], "A")
                else:
                    other = Controller(draw_controller_moves(rng, letters, answers))
                    self.assertEqual(meet(monitor, other, machine)[0], "B")

    def test_a_new_machine_at_each_call(self):
        monitor = Monitor(1, [[[(2, 1)]], [[(2, 0)]]])
        for call in (synthesize, lambda each: synthesize_on(each, Ladder(1, [1]))):
            one = call(monitor)
            memory = one.memory
            one(0)
            other = call(monitor)
            self.assertIsNot(one, other)
            self.assertEqual((memory, other.memory), (0, 0))


class SynthesizeOnTest(Case):
    def test_small(self):
        monitor = Monitor(1, [[[(1, 1), (1, 0)]], [[(2, 0), (0, 1)]]])
        self.assertIsNone(synthesize_on(Monitor(1, [[[(1, 0)]]]), Ladder(1, [1])))
        machine = synthesize_on(monitor, Ladder(1, [1]))
        self.assertIs(type(machine), Controller)
        self.assertIsNone(judge_controller(monitor, machine))
        # A wins, but this ladder has no step for a rank of 1.
        self.assertIsNone(synthesize_on(monitor, Ladder(1, [])))
        self.assertIs(type(synthesize(monitor)), Controller)

    def test_many_ladders(self):
        rng = drawn(552)
        seen = {True: 0, False: 0}
        missed = 0
        for height, moves in draw_monitors(rng, 2):
            monitor = Monitor(height, moves)
            for levels in [(), (1,), (height,), draw_row(rng, height, 3), draw_row(rng, height, 8)]:
                machine = synthesize_on(monitor, Ladder(height, levels))
                told = 0 in slow_told(monitor_game(monitor), levels)
                self.assertEqual(machine is not None, told)
                seen[told] += 1
                if told:
                    self.assertIs(type(machine), Controller)
                    self.assertLessEqual(len(machine.moves), 4)
                    self.assertEqual(machine.memory, 0)
                    self.assertIsNone(judge_controller(monitor, machine))
                    self.assertFalse(controller_fails(moves, machine.moves))
                else:
                    missed += type(synthesize(monitor)) is Controller
        self.assertGreater(min(seen.values()), 100)
        self.assertGreater(missed, 10)

    def test_all_short_ladders(self):
        # Three states, of which each one asks for its own level.
        moves = [[[(1, 1), (1, 0)]], [[(3, 2), (1, 1)]], [[(4, 0), (3, 2)]]]
        monitor = Monitor(2, moves)
        seen = set()
        for levels in all_rows_up_to(2, 4):
            machine = synthesize_on(monitor, Ladder(2, levels))
            self.assertEqual(machine is None, 0 not in told_nodes(monitor_game(monitor), Ladder(2, levels)))
            seen.add(machine is None)
            if machine is not None:
                self.assertFalse(controller_fails(moves, machine.moves))
        self.assertEqual(seen, {True, False})

    def test_limits(self):
        rng = drawn(553)
        for height, moves in draw_monitors(rng, 1):
            monitor, ladder = Monitor(height, moves), Ladder(height, long_levels(height))
            machine = synthesize_on(monitor, ladder)
            self.assertEqual(machine is not None, 0 in told_nodes(monitor_game(monitor), ladder))

    def test_height_mismatch(self):
        for height in (1, 2, 3):
            for other in (1, 2, 3):
                if other != height:
                    monitor = Monitor(height, [[[(0, 0)]]])
                    self.assert_raises(HeightMismatch, synthesize_on, monitor, Ladder(other, []))
                    self.assert_raises(HeightMismatch, synthesize_on, monitor, Ladder(other, [1] * 24))
